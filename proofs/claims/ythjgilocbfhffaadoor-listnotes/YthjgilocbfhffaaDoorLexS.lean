/-
  The contracts of lex.Scan and of what it calls. Of lines of no more than 2^63 - 1 bytes.
-/
import Derived.Test.YthjgilocbfhffaaDoorRows
import Derived.Test.YthjgilocbfhffaaDoorLexA
namespace Go.Proofs.YthjgilocbfhffaaDoor
open Go.RowKit
set_option maxRecDepth 100000

theorem digit_any (c : UInt8) (w : World) :
    Calls Tryd.prog 102 #[.int .u8 c.toNat] w fun e w' => ∃ r, e = .returned r ∧ r = .int .i64 (digN c) ∧ Below w.heap.size w w' := by
  have hc := c.toNat_lt
  refine calls_Wp (args := [_]) (n := 24) Tryd.func102 rfl rfl (by simp) ?_
  refine Wp.seq ?_
  refine Wp.region [0] (by kernel_rfl) (by kernel_rfl) ?_
  refine s_assign rfl rfl rfl rfl ?_
  refine vOrd_nil ?_
  refine Wp.seq ?_
  refine Wp.block ?_
  refine Wp.seq ?_
  refine Wp.region [0, 1, 2, 3, 4, 5, 6] (by kernel_rfl) (by kernel_rfl) ?_
  refine s_move rfl rfl rfl rfl ?_
  refine p_geq rfl rfl rfl rfl rfl (fun h5 => ?_) (fun h5 => ?_)
  · refine s_move rfl rfl rfl rfl ?_
    refine s_move rfl rfl rfl rfl ?_
    refine p_leq rfl rfl rfl rfl rfl (fun h8 => ?_) (fun h8 => ?_)
    · refine s_pick rfl rfl rfl rfl rfl ?_
      refine s_assign rfl rfl rfl rfl ?_
      refine vOrd_nil ?_
      refine Wp.condT rfl rfl ?_
      refine Wp.seq ?_
      refine Wp.region [0, 1, 2, 3] (by kernel_rfl) (by kernel_rfl) ?_
      refine s_move rfl rfl rfl rfl ?_
      refine a_sub (0) 255 (by decide) rfl rfl rfl rfl rfl (by omega) (by omega) ?_
      refine a_conv (-9223372036854775808) 9223372036854775807 (by decide) rfl rfl rfl rfl rfl rfl (by omega) (by omega) ?_
      refine s_assign rfl rfl rfl rfl ?_
      refine vOrd_nil ?_
      refine Wp.ret ⟨.inr rfl, fun lW => ⟨_, res_tmp (P := Tryd.prog) rfl rfl, _, rfl, ?_, lW⟩⟩
      clear lW
      rw [digN_a (by omega) (by omega)]
      rw [show ((c.toNat - 48 : Nat) : Int) = (c.toNat : Int) - 48 by omega]
    · refine s_pick rfl rfl rfl rfl rfl ?_
      refine s_assign rfl rfl rfl rfl ?_
      refine vOrd_nil ?_
      refine Wp.condF rfl rfl ?_
      refine Wp.seq ?_
      refine Wp.region [0, 1, 2, 3, 4, 5, 6] (by kernel_rfl) (by kernel_rfl) ?_
      refine s_move rfl rfl rfl rfl ?_
      refine p_geq rfl rfl rfl rfl rfl (fun h15 => ?_) (fun h15 => ?_)
      · refine s_move rfl rfl rfl rfl ?_
        refine s_move rfl rfl rfl rfl ?_
        refine p_leq rfl rfl rfl rfl rfl (fun h18 => ?_) (fun h18 => ?_)
        · refine s_pick rfl rfl rfl rfl rfl ?_
          refine s_assign rfl rfl rfl rfl ?_
          refine vOrd_nil ?_
          refine Wp.condT rfl rfl ?_
          refine Wp.seq ?_
          refine Wp.region [0, 1, 2, 3, 4] (by kernel_rfl) (by kernel_rfl) ?_
          refine s_move rfl rfl rfl rfl ?_
          refine a_sub (0) 255 (by decide) rfl rfl rfl rfl rfl (by omega) (by omega) ?_
          refine a_conv (-9223372036854775808) 9223372036854775807 (by decide) rfl rfl rfl rfl rfl rfl (by omega) (by omega) ?_
          refine a_add (-9223372036854775808) 9223372036854775807 (by decide) rfl rfl rfl rfl rfl (by omega) (by omega) ?_
          refine s_assign rfl rfl rfl rfl ?_
          refine vOrd_nil ?_
          refine Wp.ret ⟨.inr rfl, fun lW => ⟨_, res_tmp (P := Tryd.prog) rfl rfl, _, rfl, ?_, lW⟩⟩
          clear lW
          rw [digN_b (by omega) (by omega)]
          rw [show ((c.toNat - 87 : Nat) : Int) = (c.toNat : Int) - 97 + 10 by omega]
        · refine s_pick rfl rfl rfl rfl rfl ?_
          refine s_assign rfl rfl rfl rfl ?_
          refine vOrd_nil ?_
          refine Wp.condF rfl rfl ?_
          refine Wp.skip ?_
          refine Wp.seq ?_
          refine Wp.region [0] (by kernel_rfl) (by kernel_rfl) ?_
          refine s_assign rfl rfl rfl rfl ?_
          refine vOrd_nil ?_
          refine Wp.ret ⟨.inr rfl, fun lW => ⟨_, res_tmp (P := Tryd.prog) rfl rfl, _, rfl, ?_, lW⟩⟩
          clear lW
          rw [digN_c (by omega) (by omega)]
          rfl
      · refine s_move rfl rfl rfl rfl ?_
        refine s_skip rfl rfl rfl ?_
        refine s_skip rfl rfl rfl ?_
        refine s_pick rfl rfl rfl rfl rfl ?_
        refine s_assign rfl rfl rfl rfl ?_
        refine vOrd_nil ?_
        refine Wp.condF rfl rfl ?_
        refine Wp.skip ?_
        refine Wp.seq ?_
        refine Wp.region [0] (by kernel_rfl) (by kernel_rfl) ?_
        refine s_assign rfl rfl rfl rfl ?_
        refine vOrd_nil ?_
        refine Wp.ret ⟨.inr rfl, fun lW => ⟨_, res_tmp (P := Tryd.prog) rfl rfl, _, rfl, ?_, lW⟩⟩
        clear lW
        rw [digN_c (by omega) (by omega)]
        rfl
  · refine s_move rfl rfl rfl rfl ?_
    refine s_skip rfl rfl rfl ?_
    refine s_skip rfl rfl rfl ?_
    refine s_pick rfl rfl rfl rfl rfl ?_
    refine s_assign rfl rfl rfl rfl ?_
    refine vOrd_nil ?_
    refine Wp.condF rfl rfl ?_
    refine Wp.seq ?_
    refine Wp.region [0, 1, 2, 3, 4, 5, 6] (by kernel_rfl) (by kernel_rfl) ?_
    refine s_move rfl rfl rfl rfl ?_
    refine p_geq rfl rfl rfl rfl rfl (fun h15 => ?_) (fun h15 => ?_)
    · refine s_move rfl rfl rfl rfl ?_
      refine s_move rfl rfl rfl rfl ?_
      refine p_leq rfl rfl rfl rfl rfl (fun h18 => ?_) (fun h18 => ?_)
      · refine s_pick rfl rfl rfl rfl rfl ?_
        refine s_assign rfl rfl rfl rfl ?_
        refine vOrd_nil ?_
        refine Wp.condT rfl rfl ?_
        refine Wp.seq ?_
        refine Wp.region [0, 1, 2, 3, 4] (by kernel_rfl) (by kernel_rfl) ?_
        refine s_move rfl rfl rfl rfl ?_
        refine a_sub (0) 255 (by decide) rfl rfl rfl rfl rfl (by omega) (by omega) ?_
        refine a_conv (-9223372036854775808) 9223372036854775807 (by decide) rfl rfl rfl rfl rfl rfl (by omega) (by omega) ?_
        refine a_add (-9223372036854775808) 9223372036854775807 (by decide) rfl rfl rfl rfl rfl (by omega) (by omega) ?_
        refine s_assign rfl rfl rfl rfl ?_
        refine vOrd_nil ?_
        refine Wp.ret ⟨.inr rfl, fun lW => ⟨_, res_tmp (P := Tryd.prog) rfl rfl, _, rfl, ?_, lW⟩⟩
        clear lW
        rw [digN_b (by omega) (by omega)]
        rw [show ((c.toNat - 87 : Nat) : Int) = (c.toNat : Int) - 97 + 10 by omega]
      · refine s_pick rfl rfl rfl rfl rfl ?_
        refine s_assign rfl rfl rfl rfl ?_
        refine vOrd_nil ?_
        refine Wp.condF rfl rfl ?_
        refine Wp.skip ?_
        refine Wp.seq ?_
        refine Wp.region [0] (by kernel_rfl) (by kernel_rfl) ?_
        refine s_assign rfl rfl rfl rfl ?_
        refine vOrd_nil ?_
        refine Wp.ret ⟨.inr rfl, fun lW => ⟨_, res_tmp (P := Tryd.prog) rfl rfl, _, rfl, ?_, lW⟩⟩
        clear lW
        rw [digN_c (by omega) (by omega)]
        rfl
    · refine s_move rfl rfl rfl rfl ?_
      refine s_skip rfl rfl rfl ?_
      refine s_skip rfl rfl rfl ?_
      refine s_pick rfl rfl rfl rfl rfl ?_
      refine s_assign rfl rfl rfl rfl ?_
      refine vOrd_nil ?_
      refine Wp.condF rfl rfl ?_
      refine Wp.skip ?_
      refine Wp.seq ?_
      refine Wp.region [0] (by kernel_rfl) (by kernel_rfl) ?_
      refine s_assign rfl rfl rfl rfl ?_
      refine vOrd_nil ?_
      refine Wp.ret ⟨.inr rfl, fun lW => ⟨_, res_tmp (P := Tryd.prog) rfl rfl, _, rfl, ?_, lW⟩⟩
      clear lW
      rw [digN_c (by omega) (by omega)]
      rfl
theorem isBl_any (c : UInt8) (w : World) :
    Calls Tryd.prog 94 #[.int .u8 c.toNat] w fun e w' => ∃ r, e = .returned r ∧ r = .bool (isBl c) ∧ Below w.heap.size w w' := by
  refine calls_Wp (args := [_]) (n := 9) Tryd.func94 rfl rfl (by simp) ?_
  refine Wp.seq ?_
  refine Wp.region [0] (by kernel_rfl) (by kernel_rfl) ?_
  refine s_assign rfl rfl rfl rfl ?_
  refine vOrd_nil ?_
  refine Wp.seq ?_
  refine Wp.region [0, 1, 2, 3, 4, 5, 6] (by kernel_rfl) (by kernel_rfl) ?_
  refine s_move rfl rfl rfl rfl ?_
  refine p_eql rfl rfl rfl rfl rfl (fun h4 => ?_) (fun h4 => ?_)
  · refine s_move rfl rfl rfl rfl ?_
    refine s_skip rfl rfl rfl ?_
    refine s_skip rfl rfl rfl ?_
    refine s_pick rfl rfl rfl rfl rfl ?_
    refine s_assign rfl rfl rfl rfl ?_
    refine vOrd_nil ?_
    refine Wp.ret ⟨.inr rfl, fun lW => ⟨_, res_tmp (P := Tryd.prog) rfl rfl, _, rfl, ?_, lW⟩⟩
    clear lW
    rw [show isBl c = true by simp [isBl]; omega]
  · refine s_move rfl rfl rfl rfl ?_
    refine s_move rfl rfl rfl rfl ?_
    refine p_eql rfl rfl rfl rfl rfl (fun h7 => ?_) (fun h7 => ?_)
    · refine s_pick rfl rfl rfl rfl rfl ?_
      refine s_assign rfl rfl rfl rfl ?_
      refine vOrd_nil ?_
      refine Wp.ret ⟨.inr rfl, fun lW => ⟨_, res_tmp (P := Tryd.prog) rfl rfl, _, rfl, ?_, lW⟩⟩
      clear lW
      rw [show isBl c = true by simp [isBl]; omega]
    · refine s_pick rfl rfl rfl rfl rfl ?_
      refine s_assign rfl rfl rfl rfl ?_
      refine vOrd_nil ?_
      refine Wp.ret ⟨.inr rfl, fun lW => ⟨_, res_tmp (P := Tryd.prog) rfl rfl, _, rfl, ?_, lW⟩⟩
      clear lW
      rw [show isBl c = false by simp [isBl]; omega]
theorem isD_any (c : UInt8) (base k : Nat) (w : World) (hv : Var w k [.int .i64 base]) :
    Calls Tryd.prog 101 #[.int .u8 c.toNat, .pointer (some ⟨k, 0, none⟩)] w fun e w' => ∃ r, e = .returned r ∧ r = .bool (isD base c) ∧ Below w.heap.size w w' := by
  refine calls_Wp (args := [_, _]) (n := 8) Tryd.func101 rfl rfl (by simp) ?_
  refine Wp.seq ?_
  refine Wp.region [0] (by kernel_rfl) (by kernel_rfl) ?_
  refine s_assign rfl rfl rfl rfl ?_
  refine vOrd_nil ?_
  refine Wp.seq ?_
  refine Wp.old (fun lo => ?_)
  have tb := hv.later lo
  clear lo
  refine (Wp.drawn (by kernel_rfl) (by kernel_rfl) [0, 2, 1, 3, 4] [4, 3, 0, 0, 0] (by kernel_rfl) (by kernel_rfl) (fun | 1 => fun v _ => v = .int .i64 (digN c) | _ => fun _ _ => True) (fun wd ld => ?_))
  replace tb := tb.later ld
  clear ld
  refine s_move rfl rfl rfl rfl ?_
  refine s_ldU rfl rfl rfl rfl tb rfl ?_
  refine s_callD rfl rfl rfl (by kernel_rfl) rfl (fun wc lc => digit_any c wc) ?_
  rintro v w2 u2 rfl lw2 mw2
  replace tb := (tb.later lw2).later mw2
  refine p_lss rfl rfl rfl rfl rfl (fun h7 => ?_) (fun h7 => ?_)
  · refine s_assign rfl rfl rfl rfl ?_
    refine vOrd_nil ?_
    refine Wp.ret ⟨.inr rfl, fun lW => ⟨_, res_tmp (P := Tryd.prog) rfl rfl, _, rfl, ?_, lW⟩⟩
    clear lW
    rw [show isD base c = true by unfold isD; exact decide_eq_true (by omega)]
  · refine s_assign rfl rfl rfl rfl ?_
    refine vOrd_nil ?_
    refine Wp.ret ⟨.inr rfl, fun lW => ⟨_, res_tmp (P := Tryd.prog) rfl rfl, _, rfl, ?_, lW⟩⟩
    clear lW
    rw [show isD base c = false by unfold isD; exact decide_eq_false (by omega)]
theorem count_any (t : List UInt8) (base : Nat) (h0 : 0 < base) (hp : base ^ t.length ≤ 1000000000000000000) (ht : t.length ≤ 18) (hall : t.all (isD base) = true) (w : World) :
    Calls Tryd.prog 96 #[.string ⟨⟨t⟩⟩, .int .i64 (base : Int)] w fun e w' => ∃ r, e = .returned r ∧ r = .int .i64 (cnt base t 0) ∧ Below w.heap.size w w' := by
  refine calls_Wp (args := [_, _]) (n := 22) Tryd.func96 rfl rfl (by simp) ?_
  refine Wp.seq ?_
  refine Wp.region [0] (by kernel_rfl) (by kernel_rfl) ?_
  refine s_assign rfl rfl rfl rfl ?_
  refine vOrd_nil ?_
  refine Wp.seq ?_
  refine Wp.region [0] (by kernel_rfl) (by kernel_rfl) ?_
  refine s_assign rfl rfl rfl rfl ?_
  refine vOrd_nil ?_
  refine Wp.seq ?_
  refine Wp.seq ?_
  refine Wp.region [0, 1, 2] (by kernel_rfl) (by kernel_rfl) ?_
  refine s_move rfl rfl rfl rfl ?_
  refine b_len rfl rfl rfl rfl rfl ?_
  refine s_move rfl rfl rfl rfl ?_
  refine vOrd_nil ?_
  refine Wp.block ?_
  refine Wp.loop (fun k st _ => ∃ (i : Nat) (N : Int), st = St.of [(0, .v (.string ⟨⟨t⟩⟩)), (1, .v (.int .i64 (base : Int))), (5, .v (.int .i64 N)), (8, .v (.int .i64 t.length)), (9, .v (.int .i64 i))] [] ∧ N = cnt base (t.take i) 0 ∧ i ≤ t.length ∧ k = t.length - i) ?_ ?_
  · exact ⟨_, _, (St.of_le' (env := [(0, .v _), (1, .v _), (5, .v _), (8, .v _), (9, .v _)]) (mem := []) ⟨rfl, rfl, rfl, rfl, rfl, trivial⟩ trivial), 0, 0, rfl, rfl, by omega, rfl⟩
  · rintro k st w1 ⟨i, N, rfl, hN, hi, rfl⟩
    refine Wp.seq ?_
    refine Wp.region [0] (by kernel_rfl) (by kernel_rfl) ?_
    refine p_lss rfl rfl rfl rfl rfl (fun h10 => ?_) (fun h10 => ?_)
    · refine vOrd_nil ?_
      refine Wp.seq ?_
      refine Wp.condT rfl rfl ?_
      refine Wp.skip ?_
      refine Wp.seq ?_
      refine Wp.block ?_
      refine Wp.seq ?_
      refine Wp.region [0, 1] (by kernel_rfl) (by kernel_rfl) ?_
      refine s_move rfl rfl rfl rfl ?_
      refine s_assign rfl rfl rfl rfl ?_
      refine vOrd_nil ?_
      obtain ⟨c, hc⟩ := get_some (l := t) (i := i) (by omega)
      have hst := cnt_step hall (i := i) (by omega) h0
      obtain ⟨M, hM⟩ : ∃ M : Nat, M = base * cnt base (t.take i) 0 := ⟨_, rfl⟩
      have hMI : (base : Int) * N = M := by rw [hN, hM]; exact (Int.natCast_mul _ _).symm
      rw [← hM] at hst
      have hd : digN c < base := of_decide_eq_true (List.all_eq_true.1 hall c (List.mem_of_getElem? hc))
      refine Wp.region [0, 1, 2, 3, 4, 5, 6, 7, 8] (by kernel_rfl) (by kernel_rfl) ?_
      refine s_move rfl rfl rfl rfl ?_
      refine s_move rfl rfl rfl rfl ?_
      refine a_mul (-9223372036854775808) 9223372036854775807 (by decide) rfl rfl rfl rfl rfl (by rw [hMI]; omega) (by rw [hMI]; omega) ?_
      refine s_move rfl rfl rfl rfl ?_
      refine s_move rfl rfl rfl rfl ?_
      refine b_byte rfl rfl rfl rfl rfl rfl (by omega) (hc) ?_
      refine s_callT rfl rfl rfl (by kernel_rfl) rfl (digit_any c _) ?_
      rintro v w2 rfl lw2
      refine a_add (-9223372036854775808) 9223372036854775807 (by decide) rfl rfl rfl rfl rfl (by rw [hMI]; omega) (by rw [hMI]; omega) ?_
      refine s_assign rfl rfl rfl rfl ?_
      refine vOrd_nil ?_
      refine Wp.region [0, 1] (by kernel_rfl) (by kernel_rfl) ?_
      refine a_add (-9223372036854775808) 9223372036854775807 (by decide) rfl rfl rfl rfl rfl (by omega) (by omega) ?_
      refine s_move rfl rfl rfl rfl ?_
      refine vOrd_nil ?_
      exact ⟨_, _, by omega, (St.of_le' (env := [(0, .v _), (1, .v _), (5, .v _), (8, .v _), (9, .v _)]) (mem := []) ⟨rfl, rfl, rfl, rfl, rfl, trivial⟩ trivial), i + 1, _, rfl, by rw [take_succ hc, cnt_snoc, hMI]; omega, by omega, rfl⟩
    · refine vOrd_nil ?_
      refine Wp.seq ?_
      refine Wp.condF rfl rfl ?_
      refine Wp.exit ?_
      refine Wp.seq ?_
      refine Wp.region [0, 1] (by kernel_rfl) (by kernel_rfl) ?_
      refine s_move rfl rfl rfl rfl ?_
      refine s_assign rfl rfl rfl rfl ?_
      refine vOrd_nil ?_
      refine Wp.ret ⟨.inr rfl, fun lW => ⟨_, res_tmp (P := Tryd.prog) rfl rfl, _, rfl, ?_, lW⟩⟩
      clear lW
      rw [show i = t.length by omega, List.take_length] at hN
      rw [hN]
/-- The bytes up to the first one that is not wanted. -/
theorem take_any {b : Nat} {l : List UInt8} {bad : Bool} {w : World} (hv : Var w b [.string ⟨⟨l⟩⟩, .bool bad]) (hl : l.length ≤ 9223372036854775807) {f : FuncId} {caps : List Value} {p : UInt8 → Bool} (hf : goFn Tryd.prog f = true)
    (hw : ∀ c w', Later w w' → Calls Tryd.prog f ([Value.int .u8 c.toNat] ++ caps).toArray w' fun e w2 => ∃ r, e = .returned r ∧ r = .bool (p c) ∧ Below w'.heap.size w' w2) :
    Calls Tryd.prog 93 #[.pointer (some ⟨b, 0, none⟩), .func (.func f) #[] caps.toArray] w fun e w' => ∃ v, e = .returned v ∧ (∃ cs', (v = .string ⟨⟨l.takeWhile p⟩⟩ ∧ cs' = [.string ⟨⟨l.dropWhile p⟩⟩, .bool bad]) ∧ Var w' b cs') ∧ Under b w w' := by
  refine calls_WpB (args := [_]) (n := 42) hv Tryd.func93 rfl rfl (by simp) ?_
  refine Wp.seq ?_
  refine Wp.region [0] (by kernel_rfl) (by kernel_rfl) ?_
  refine s_assign rfl rfl rfl rfl ?_
  refine vOrd_nil ?_
  refine Wp.seq ?_
  refine Wp.region [0] (by kernel_rfl) (by kernel_rfl) ?_
  refine s_assign rfl rfl rfl rfl ?_
  refine vOrd_nil ?_
  refine Wp.seq ?_
  refine Wp.block ?_
  refine Wp.loop (fun k st w1 => ∃ n : Nat, st = St.of [(0, .p 900 b 0), (1, .v (.func (.func f) #[] caps.toArray)), (5, .v (.int .i64 n))] [(900, b, [.string ⟨⟨l⟩⟩, .bool bad])] ∧ n ≤ l.length ∧ (l.take n).all p = true ∧ Later w w1 ∧ k = l.length - n) ?_ ?_
  · exact ⟨_, _, (St.of_le' (env := [(0, .p _ _ _), (1, .v _), (5, .v _)]) (mem := [(900, _, [_, _])]) ⟨rfl, rfl, rfl, trivial⟩ ⟨rfl, trivial⟩), 0, rfl, by omega, rfl, Later.refl _, rfl⟩
  · rintro k st w1 ⟨n, rfl, hn, hall, hlat, rfl⟩
    refine Wp.seq ?_
    refine Wp.seq ?_
    refine Wp.region [0, 1, 2, 3, 4, 5, 6, 7, 8, 9, 10, 11, 12, 13, 14, 15, 16] (by kernel_rfl) (by kernel_rfl) ?_
    refine s_move rfl rfl rfl rfl ?_
    refine s_move rfl rfl rfl rfl ?_
    refine s_nil rfl rfl rfl rfl ?_
    refine s_field 0 rfl rfl rfl rfl rfl ?_
    refine s_load rfl rfl rfl rfl rfl rfl rfl ?_
    refine b_len rfl rfl rfl rfl rfl ?_
    refine p_lss rfl rfl rfl rfl rfl (fun h13 => ?_) (fun h13 => ?_)
    · obtain ⟨c, hc⟩ := get_some (l := l) (i := n) (by omega)
      refine s_move rfl rfl rfl rfl ?_
      refine s_move rfl rfl rfl rfl ?_
      refine s_move rfl rfl rfl rfl ?_
      refine s_nil rfl rfl rfl rfl ?_
      refine s_field 0 rfl rfl rfl rfl rfl ?_
      refine s_load rfl rfl rfl rfl rfl rfl rfl ?_
      refine s_move rfl rfl rfl rfl ?_
      refine b_byte rfl rfl rfl rfl rfl rfl (by omega) (hc) ?_
      refine s_callF rfl rfl rfl hf rfl rfl (hw c _ hlat) ?_
      rintro v w2 rfl lw2
      rcases Bool.eq_false_or_eq_true (p c) with h22 | h22
      · rw [h22]
        refine s_pick rfl rfl rfl rfl rfl ?_
        refine vOrd_nil ?_
        refine Wp.condT rfl rfl ?_
        refine Wp.skip ?_
        refine Wp.block ?_
        refine Wp.region [0, 1, 2] (by kernel_rfl) (by kernel_rfl) ?_
        refine s_move rfl rfl rfl rfl ?_
        refine a_add (-9223372036854775808) 9223372036854775807 (by decide) rfl rfl rfl rfl rfl (by omega) (by omega) ?_
        refine s_assign rfl rfl rfl rfl ?_
        refine vOrd_nil ?_
        exact ⟨_, _, by omega, (St.of_le' (env := [(0, .p _ _ _), (1, .v _), (5, .v _)]) (mem := [(900, _, [_, _])]) ⟨rfl, rfl, rfl, trivial⟩ ⟨rfl, trivial⟩), n + 1, rfl, by omega, all_snoc hall hc h22, hlat.trans (by assumption), rfl⟩
      · rw [h22]
        refine s_pick rfl rfl rfl rfl rfl ?_
        refine vOrd_nil ?_
        refine Wp.condF rfl rfl ?_
        refine Wp.exit ?_
        have htw := tw_at hall (fun d hd => by rw [hc] at hd; cases hd; exact h22)
        refine Wp.seq ?_
        refine Wp.region [0, 1, 2, 3, 4, 5, 6] (by kernel_rfl) (by kernel_rfl) ?_
        refine s_move rfl rfl rfl rfl ?_
        refine s_nil rfl rfl rfl rfl ?_
        refine s_field 0 rfl rfl rfl rfl rfl ?_
        refine s_load rfl rfl rfl rfl rfl rfl rfl ?_
        refine s_move rfl rfl rfl rfl ?_
        refine b_to rfl rfl rfl rfl rfl rfl (by omega) (by omega) ?_
        refine s_assign rfl rfl rfl rfl ?_
        refine vOrd_nil ?_
        refine Wp.seq ?_
        refine Wp.region [0, 1, 2, 3, 4, 5, 6, 7, 8, 9] (by kernel_rfl) (by kernel_rfl) ?_
        refine s_move rfl rfl rfl rfl ?_
        refine s_move rfl rfl rfl rfl ?_
        refine s_nil rfl rfl rfl rfl ?_
        refine s_field 0 rfl rfl rfl rfl rfl ?_
        refine s_load rfl rfl rfl rfl rfl rfl rfl ?_
        refine s_move rfl rfl rfl rfl ?_
        refine b_from rfl rfl rfl rfl rfl rfl (by omega) (by omega) ?_
        refine s_nil rfl rfl rfl rfl ?_
        refine s_field 0 rfl rfl rfl rfl rfl ?_
        refine s_store rfl rfl rfl rfl rfl rfl rfl (fun w3 sw3 vw3 => ?_)
        refine vOrd_nil ?_
        refine Wp.seq ?_
        refine Wp.region [0, 1] (by kernel_rfl) (by kernel_rfl) ?_
        refine s_move rfl rfl rfl rfl ?_
        refine s_assign rfl rfl rfl rfl ?_
        refine vOrd_nil ?_
        refine Wp.ret ⟨.inr rfl, fun mW lW => ⟨_, res_tmp (P := Tryd.prog) rfl rfl, _, rfl, ?_, lW⟩⟩
        clear lW
        rw [htw.1, htw.2]
        exact ⟨_, ⟨rfl, rfl⟩, mW 900 _ _ rfl⟩
    · refine s_move rfl rfl rfl rfl ?_
      refine s_skip rfl rfl rfl ?_
      refine s_skip rfl rfl rfl ?_
      refine s_skip rfl rfl rfl ?_
      refine s_skip rfl rfl rfl ?_
      refine s_skip rfl rfl rfl ?_
      refine s_skip rfl rfl rfl ?_
      refine s_skip rfl rfl rfl ?_
      refine s_skip rfl rfl rfl ?_
      refine s_pick rfl rfl rfl rfl rfl ?_
      refine vOrd_nil ?_
      refine Wp.condF rfl rfl ?_
      refine Wp.exit ?_
      have htw := tw_at hall (fun d hd => by have := (List.getElem?_eq_some_iff.1 hd).1; omega)
      refine Wp.seq ?_
      refine Wp.region [0, 1, 2, 3, 4, 5, 6] (by kernel_rfl) (by kernel_rfl) ?_
      refine s_move rfl rfl rfl rfl ?_
      refine s_nil rfl rfl rfl rfl ?_
      refine s_field 0 rfl rfl rfl rfl rfl ?_
      refine s_load rfl rfl rfl rfl rfl rfl rfl ?_
      refine s_move rfl rfl rfl rfl ?_
      refine b_to rfl rfl rfl rfl rfl rfl (by omega) (by omega) ?_
      refine s_assign rfl rfl rfl rfl ?_
      refine vOrd_nil ?_
      refine Wp.seq ?_
      refine Wp.region [0, 1, 2, 3, 4, 5, 6, 7, 8, 9] (by kernel_rfl) (by kernel_rfl) ?_
      refine s_move rfl rfl rfl rfl ?_
      refine s_move rfl rfl rfl rfl ?_
      refine s_nil rfl rfl rfl rfl ?_
      refine s_field 0 rfl rfl rfl rfl rfl ?_
      refine s_load rfl rfl rfl rfl rfl rfl rfl ?_
      refine s_move rfl rfl rfl rfl ?_
      refine b_from rfl rfl rfl rfl rfl rfl (by omega) (by omega) ?_
      refine s_nil rfl rfl rfl rfl ?_
      refine s_field 0 rfl rfl rfl rfl rfl ?_
      refine s_store rfl rfl rfl rfl rfl rfl rfl (fun w4 sw4 vw4 => ?_)
      refine vOrd_nil ?_
      refine Wp.seq ?_
      refine Wp.region [0, 1] (by kernel_rfl) (by kernel_rfl) ?_
      refine s_move rfl rfl rfl rfl ?_
      refine s_assign rfl rfl rfl rfl ?_
      refine vOrd_nil ?_
      refine Wp.ret ⟨.inr rfl, fun mW lW => ⟨_, res_tmp (P := Tryd.prog) rfl rfl, _, rfl, ?_, lW⟩⟩
      clear lW
      rw [htw.1, htw.2]
      exact ⟨_, ⟨rfl, rfl⟩, mW 900 _ _ rfl⟩
theorem blanks_any {b : Nat} {l : List UInt8} {bad : Bool} {w : World} (hv : Var w b [.string ⟨⟨l⟩⟩, .bool bad]) (hl : l.length ≤ 9223372036854775807) :
    Calls Tryd.prog 76 #[.pointer (some ⟨b, 0, none⟩)] w fun e w' => ∃ v, e = .returned v ∧ (∃ cs', (v = .int .i64 ((l.takeWhile isBl).length : Int) ∧ cs' = [.string ⟨⟨aB l⟩⟩, .bool bad]) ∧ Var w' b cs') ∧ Under b w w' := by
  refine calls_WpB (args := []) (n := 6) hv Tryd.func76 rfl rfl (by simp) ?_
  refine Wp.seq ?_
  refine Wp.region [0] (by kernel_rfl) (by kernel_rfl) ?_
  refine s_assign rfl rfl rfl rfl ?_
  refine vOrd_nil ?_
  refine Wp.seq ?_
  refine Wp.region [0, 1, 2, 3] (by kernel_rfl) (by kernel_rfl) ?_
  refine s_move rfl rfl rfl rfl ?_
  refine s_callB 900 (fun _ => false) rfl rfl rfl (by kernel_rfl) rfl rfl keep_none (fun vr => take_any vr hl (caps := []) (p := isBl) (by kernel_rfl) (fun c w' _ => isBl_any c w')) ?_
  rintro v cs1 w1 ⟨rfl, rfl⟩ uw1 vw1
  refine b_len rfl rfl rfl rfl rfl ?_
  refine s_assign rfl rfl rfl rfl ?_
  refine vOrd_nil ?_
  refine Wp.ret ⟨.inr rfl, fun mW lW => ⟨_, res_tmp (P := Tryd.prog) rfl rfl, _, rfl, ?_, lW⟩⟩
  clear lW
  exact ⟨_, ⟨rfl, rfl⟩, mW 900 _ _ rfl⟩
theorem gap_any {b : Nat} {l : List UInt8} {bad : Bool} {w : World} (hv : Var w b [.string ⟨⟨l⟩⟩, .bool bad]) (hl : l.length ≤ 9223372036854775807) :
    Calls Tryd.prog 78 #[.pointer (some ⟨b, 0, none⟩)] w fun e w' => ∃ v, e = .returned v ∧ (∃ cs', (v = .tuple #[] ∧ cs' = [.string ⟨⟨aB l⟩⟩, .bool (bad || nB l)]) ∧ Var w' b cs') ∧ Under b w w' := by
  refine calls_WpB (args := []) (n := 8) hv Tryd.func78 rfl rfl (by simp) ?_
  refine Wp.seq ?_
  refine Wp.region [0, 1, 2] (by kernel_rfl) (by kernel_rfl) ?_
  refine s_move rfl rfl rfl rfl ?_
  refine s_callB 900 (fun _ => false) rfl rfl rfl (by kernel_rfl) rfl rfl keep_none (fun vr => blanks_any vr hl) ?_
  rintro v cs1 w1 ⟨rfl, rfl⟩ uw1 vw1
  refine p_eql rfl rfl rfl rfl rfl (fun h4 => ?_) (fun h4 => ?_)
  · refine vOrd_nil ?_
    refine Wp.condT rfl rfl ?_
    refine Wp.region [0, 1, 2, 3] (by kernel_rfl) (by kernel_rfl) ?_
    refine s_move rfl rfl rfl rfl ?_
    refine s_nil rfl rfl rfl rfl ?_
    refine s_field 1 rfl rfl rfl rfl rfl ?_
    refine s_store rfl rfl rfl rfl rfl rfl rfl (fun w2 sw2 vw2 => ?_)
    refine vOrd_nil ?_
    refine ⟨.inl rfl, fun mW lW => ⟨_, rfl, _, rfl, ?_, lW⟩⟩
    rw [show nB l = true from decide_eq_true (List.eq_nil_of_length_eq_zero (by omega)), Bool.or_true]
    exact ⟨_, ⟨rfl, rfl⟩, mW 900 _ _ rfl⟩
  · refine vOrd_nil ?_
    refine Wp.condF rfl rfl ?_
    refine Wp.skip ?_
    refine ⟨.inl rfl, fun mW lW => ⟨_, rfl, _, rfl, ?_, lW⟩⟩
    rw [show nB l = false from decide_eq_false (fun e => h4 (by rw [e]; rfl)), Bool.or_false]
    exact ⟨_, ⟨rfl, rfl⟩, mW 900 _ _ rfl⟩
theorem digits_any {b : Nat} {l : List UInt8} {bad : Bool} {w : World} (hv : Var w b [.string ⟨⟨l⟩⟩, .bool bad]) (hl : l.length ≤ 9223372036854775807) (base most : Nat) :
    Calls Tryd.prog 95 #[.pointer (some ⟨b, 0, none⟩), .int .i64 (base : Int), .int .i64 (most : Int)] w fun e w' => ∃ v, e = .returned v ∧ (∃ cs', (v = .string ⟨⟨dg base most l⟩⟩ ∧ cs' = [.string ⟨⟨dR base l⟩⟩, .bool (bad || dgBad base most l)]) ∧ Var w' b cs') ∧ Under b w w' := by
  refine calls_WpB (args := [_, _]) (n := 23) hv Tryd.func95 rfl rfl (by simp) ?_
  refine Wp.seq ?_
  refine Wp.region [0, 1] (by kernel_rfl) (by kernel_rfl) ?_
  refine s_box rfl rfl rfl rfl rfl rfl (fun bk1 w1 kb1 lw1 => ?_)
  refine s_assign rfl rfl rfl rfl ?_
  refine vOrd_nil ?_
  refine Wp.seq ?_
  refine Wp.var (h := 4) rfl (fun hbox => ?_)
  refine Wp.region [0, 1, 2, 3] (by kernel_rfl) (by kernel_rfl) ?_
  refine s_move rfl rfl rfl rfl ?_
  refine s_mkfun rfl rfl rfl rfl ?_
  refine s_callB 900 (fun _ => false) rfl rfl rfl (by kernel_rfl) rfl rfl keep_none (fun vr => take_any vr hl (caps := [_]) (p := isD base) (by kernel_rfl) (fun c w' lw => isD_any c base _ w' (hbox.later lw))) ?_
  rintro v cs2 w2 ⟨rfl, rfl⟩ uw2 vw2
  refine s_assign rfl rfl rfl rfl ?_
  refine vOrd_nil ?_
  refine Wp.seq ?_
  refine Wp.seq ?_
  refine Wp.region [0, 1, 2, 3, 4, 5, 6, 7] (by kernel_rfl) (by kernel_rfl) ?_
  refine s_move rfl rfl rfl rfl ?_
  refine b_eq rfl rfl rfl rfl rfl (fun h12 => ?_) (fun h12 => ?_)
  · refine s_move rfl rfl rfl rfl ?_
    refine s_skip rfl rfl rfl ?_
    refine s_skip rfl rfl rfl ?_
    refine s_skip rfl rfl rfl ?_
    refine s_skip rfl rfl rfl ?_
    refine s_pick rfl rfl rfl rfl rfl ?_
    refine vOrd_nil ?_
    refine Wp.condT rfl rfl ?_
    refine Wp.seq ?_
    refine Wp.region [0, 1, 2, 3] (by kernel_rfl) (by kernel_rfl) ?_
    refine s_move rfl rfl rfl rfl ?_
    refine s_nil rfl rfl rfl rfl ?_
    refine s_field 1 rfl rfl rfl rfl rfl ?_
    refine s_store rfl rfl rfl rfl rfl rfl rfl (fun w3 sw3 vw3 => ?_)
    refine vOrd_nil ?_
    refine Wp.seq ?_
    refine Wp.region [0] (by kernel_rfl) (by kernel_rfl) ?_
    refine s_assign rfl rfl rfl rfl ?_
    refine vOrd_nil ?_
    refine Wp.ret ⟨.inr rfl, fun mW lW => ⟨_, res_tmp (P := Tryd.prog) rfl rfl, _, rfl, ?_, lW⟩⟩
    clear lW
    have hb : dgBad base most l = true := by unfold dgBad dT; rw [h12]; rfl
    rw [show dg base most l = [] by unfold dg; rw [if_pos hb], hb, Bool.or_true]
    exact ⟨_, ⟨rfl, rfl⟩, mW 900 _ _ rfl⟩
  · refine s_move rfl rfl rfl rfl ?_
    refine s_move rfl rfl rfl rfl ?_
    refine b_len rfl rfl rfl rfl rfl ?_
    refine s_move rfl rfl rfl rfl ?_
    refine p_gtr rfl rfl rfl rfl rfl (fun h17 => ?_) (fun h17 => ?_)
    · refine s_pick rfl rfl rfl rfl rfl ?_
      refine vOrd_nil ?_
      refine Wp.condT rfl rfl ?_
      refine Wp.seq ?_
      refine Wp.region [0, 1, 2, 3] (by kernel_rfl) (by kernel_rfl) ?_
      refine s_move rfl rfl rfl rfl ?_
      refine s_nil rfl rfl rfl rfl ?_
      refine s_field 1 rfl rfl rfl rfl rfl ?_
      refine s_store rfl rfl rfl rfl rfl rfl rfl (fun w4 sw4 vw4 => ?_)
      refine vOrd_nil ?_
      refine Wp.seq ?_
      refine Wp.region [0] (by kernel_rfl) (by kernel_rfl) ?_
      refine s_assign rfl rfl rfl rfl ?_
      refine vOrd_nil ?_
      refine Wp.ret ⟨.inr rfl, fun mW lW => ⟨_, res_tmp (P := Tryd.prog) rfl rfl, _, rfl, ?_, lW⟩⟩
      clear lW
      have hb : dgBad base most l = true := by unfold dgBad dT; rw [Bool.or_eq_true]; exact .inr (decide_eq_true (by omega))
      rw [show dg base most l = [] by unfold dg; rw [if_pos hb], hb, Bool.or_true]
      exact ⟨_, ⟨rfl, rfl⟩, mW 900 _ _ rfl⟩
    · refine s_pick rfl rfl rfl rfl rfl ?_
      refine vOrd_nil ?_
      refine Wp.condF rfl rfl ?_
      refine Wp.skip ?_
      refine Wp.seq ?_
      refine Wp.region [0, 1] (by kernel_rfl) (by kernel_rfl) ?_
      refine s_move rfl rfl rfl rfl ?_
      refine s_assign rfl rfl rfl rfl ?_
      refine vOrd_nil ?_
      refine Wp.ret ⟨.inr rfl, fun mW lW => ⟨_, res_tmp (P := Tryd.prog) rfl rfl, _, rfl, ?_, lW⟩⟩
      clear lW
      have hb : dgBad base most l = false := by unfold dgBad dT; rw [decide_eq_false h12, decide_eq_false (by omega)]; rfl
      rw [show dg base most l = l.takeWhile (isD base) by unfold dg; rw [if_neg (by rw [hb]; decide)]; rfl, hb, Bool.or_false]
      exact ⟨_, ⟨rfl, rfl⟩, mW 900 _ _ rfl⟩
theorem ten18 (l : List UInt8) : 10 ^ (dg 10 18 l).length ≤ 1000000000000000000 := Nat.le_trans (Nat.pow_le_pow_right (by decide) (dg_len 10 18 l)) (by decide)
theorem hex8 (l : List UInt8) : 16 ^ (dg 16 8 l).length ≤ 1000000000000000000 := Nat.le_trans (Nat.pow_le_pow_right (by decide) (dg_len 16 8 l)) (by decide)
theorem number_any {b : Nat} {l : List UInt8} {bad : Bool} {w : World} (hv : Var w b [.string ⟨⟨l⟩⟩, .bool bad]) (hl : l.length ≤ 9223372036854775807) :
    Calls Tryd.prog 79 #[.pointer (some ⟨b, 0, none⟩)] w fun e w' => ∃ v, e = .returned v ∧ (∃ cs', (v = .int .i64 (numVal l) ∧ cs' = [.string ⟨⟨dR 10 l⟩⟩, .bool (bad || numBad l)]) ∧ Var w' b cs') ∧ Under b w w' := by
  refine calls_WpB (args := []) (n := 19) hv Tryd.func79 rfl rfl (by simp) ?_
  refine Wp.seq ?_
  refine Wp.region [0] (by kernel_rfl) (by kernel_rfl) ?_
  refine s_assign rfl rfl rfl rfl ?_
  refine vOrd_nil ?_
  refine Wp.seq ?_
  refine Wp.region [0, 1, 2] (by kernel_rfl) (by kernel_rfl) ?_
  refine s_move rfl rfl rfl rfl ?_
  refine s_callB 900 (fun _ => false) rfl rfl rfl (by kernel_rfl) rfl rfl keep_none (fun vr => digits_any vr hl 10 18) ?_
  rintro v cs1 w1 ⟨rfl, rfl⟩ uw1 vw1
  refine s_assign rfl rfl rfl rfl ?_
  refine vOrd_nil ?_
  refine Wp.seq ?_
  refine Wp.seq ?_
  refine Wp.region [0, 1, 2, 3, 4, 5, 6, 7] (by kernel_rfl) (by kernel_rfl) ?_
  refine s_move rfl rfl rfl rfl ?_
  refine b_len rfl rfl rfl rfl rfl ?_
  refine p_gtr rfl rfl rfl rfl rfl (fun h8 => ?_) (fun h8 => ?_)
  · obtain ⟨c, hc⟩ := get_some (l := dg 10 18 l) (i := 0) (by omega)
    refine s_move rfl rfl rfl rfl ?_
    refine s_move rfl rfl rfl rfl ?_
    refine b_byte rfl rfl rfl rfl rfl rfl (by omega) (hc) ?_
    refine p_eql rfl rfl rfl rfl rfl (fun h12 => ?_) (fun h12 => ?_)
    · refine s_pick rfl rfl rfl rfl rfl ?_
      refine vOrd_nil ?_
      refine Wp.condT rfl rfl ?_
      refine Wp.region [0, 1, 2, 3] (by kernel_rfl) (by kernel_rfl) ?_
      refine s_move rfl rfl rfl rfl ?_
      refine s_nil rfl rfl rfl rfl ?_
      refine s_field 1 rfl rfl rfl rfl rfl ?_
      refine s_store rfl rfl rfl rfl rfl rfl rfl (fun w2 sw2 vw2 => ?_)
      refine vOrd_nil ?_
      refine Wp.seq ?_
      refine Wp.region [0, 1, 2] (by kernel_rfl) (by kernel_rfl) ?_
      refine s_move rfl rfl rfl rfl ?_
      refine s_callT rfl rfl rfl (by kernel_rfl) rfl (count_any (dg 10 18 l) 10 (by decide) (ten18 l) (dg_len 10 18 l) (dg_all 10 18 l) _) ?_
      rintro v w3 rfl lw3
      refine s_assign rfl rfl rfl rfl ?_
      refine vOrd_nil ?_
      refine Wp.ret ⟨.inr rfl, fun mW lW => ⟨_, res_tmp (P := Tryd.prog) rfl rfl, _, rfl, ?_, lW⟩⟩
      clear lW
      rw [show numBad l = true by unfold numBad; rw [decide_eq_true (by omega), decide_eq_true (by rw [List.head?_eq_getElem?, hc]; exact congrArg some (UInt8.toNat_inj.1 (by have : (48 : UInt8).toNat = 48 := rfl; omega)))]; simp, Bool.or_true]
      exact ⟨_, ⟨rfl, rfl⟩, mW 900 _ _ rfl⟩
    · refine s_pick rfl rfl rfl rfl rfl ?_
      refine vOrd_nil ?_
      refine Wp.condF rfl rfl ?_
      refine Wp.skip ?_
      refine Wp.seq ?_
      refine Wp.region [0, 1, 2] (by kernel_rfl) (by kernel_rfl) ?_
      refine s_move rfl rfl rfl rfl ?_
      refine s_callT rfl rfl rfl (by kernel_rfl) rfl (count_any (dg 10 18 l) 10 (by decide) (ten18 l) (dg_len 10 18 l) (dg_all 10 18 l) _) ?_
      rintro v w4 rfl lw4
      refine s_assign rfl rfl rfl rfl ?_
      refine vOrd_nil ?_
      refine Wp.ret ⟨.inr rfl, fun mW lW => ⟨_, res_tmp (P := Tryd.prog) rfl rfl, _, rfl, ?_, lW⟩⟩
      clear lW
      rw [show numBad l = dgBad 10 18 l by unfold numBad; rw [decide_eq_false (p := (dg 10 18 l).head? = some 48) (by rw [List.head?_eq_getElem?, hc]; intro e; cases e; exact h12 rfl)]; simp]
      exact ⟨_, ⟨rfl, rfl⟩, mW 900 _ _ rfl⟩
  · refine s_move rfl rfl rfl rfl ?_
    refine s_skip rfl rfl rfl ?_
    refine s_skip rfl rfl rfl ?_
    refine s_skip rfl rfl rfl ?_
    refine s_pick rfl rfl rfl rfl rfl ?_
    refine vOrd_nil ?_
    refine Wp.condF rfl rfl ?_
    refine Wp.skip ?_
    refine Wp.seq ?_
    refine Wp.region [0, 1, 2] (by kernel_rfl) (by kernel_rfl) ?_
    refine s_move rfl rfl rfl rfl ?_
    refine s_callT rfl rfl rfl (by kernel_rfl) rfl (count_any (dg 10 18 l) 10 (by decide) (ten18 l) (dg_len 10 18 l) (dg_all 10 18 l) _) ?_
    rintro v w5 rfl lw5
    refine s_assign rfl rfl rfl rfl ?_
    refine vOrd_nil ?_
    refine Wp.ret ⟨.inr rfl, fun mW lW => ⟨_, res_tmp (P := Tryd.prog) rfl rfl, _, rfl, ?_, lW⟩⟩
    clear lW
    rw [show numBad l = dgBad 10 18 l by unfold numBad; rw [decide_eq_false (p := 1 < (dg 10 18 l).length) (by omega)]; simp]
    exact ⟨_, ⟨rfl, rfl⟩, mW 900 _ _ rfl⟩
theorem word_any {b : Nat} {l : List UInt8} {bad : Bool} {w : World} (hv : Var w b [.string ⟨⟨l⟩⟩, .bool bad]) (hl : l.length ≤ 9223372036854775807) :
    Calls Tryd.prog 80 #[.pointer (some ⟨b, 0, none⟩)] w fun e w' => ∃ v, e = .returned v ∧ (∃ cs', (v = .int .u32 (wordVal l) ∧ cs' = [.string ⟨⟨dR 16 l⟩⟩, .bool (bad || dgBad 16 8 l)]) ∧ Var w' b cs') ∧ Under b w w' := by
  refine calls_WpB (args := []) (n := 7) hv Tryd.func80 rfl rfl (by simp) ?_
  refine Wp.seq ?_
  refine Wp.region [0] (by kernel_rfl) (by kernel_rfl) ?_
  refine s_assign rfl rfl rfl rfl ?_
  refine vOrd_nil ?_
  refine Wp.seq ?_
  have hw : 0 ≤ ((cnt 16 (dg 16 8 l) 0 : Nat) : Int) ∧ ((cnt 16 (dg 16 8 l) 0 : Nat) : Int) < 4294967296 := wordVal_in l
  refine Wp.region [0, 1, 2, 3, 4] (by kernel_rfl) (by kernel_rfl) ?_
  refine s_move rfl rfl rfl rfl ?_
  refine s_callB 900 (fun _ => false) rfl rfl rfl (by kernel_rfl) rfl rfl keep_none (fun vr => digits_any vr hl 16 8) ?_
  rintro v cs1 w1 ⟨rfl, rfl⟩ uw1 vw1
  refine s_callT rfl rfl rfl (by kernel_rfl) rfl (count_any (dg 16 8 l) 16 (by decide) (hex8 l) (Nat.le_trans (dg_len 16 8 l) (by decide)) (dg_all 16 8 l) _) ?_
  rintro v w2 rfl lw2
  refine a_conv (0) 4294967295 (by decide) rfl rfl rfl rfl rfl rfl (by omega) (by omega) ?_
  refine s_assign rfl rfl rfl rfl ?_
  refine vOrd_nil ?_
  refine Wp.ret ⟨.inr rfl, fun mW lW => ⟨_, res_tmp (P := Tryd.prog) rfl rfl, _, rfl, ?_, lW⟩⟩
  clear lW
  exact ⟨_, ⟨rfl, rfl⟩, mW 900 _ _ rfl⟩
theorem prefixLite_any (l p : List UInt8) (w : World) :
    Calls Tryd.prog 74 #[.string ⟨⟨l⟩⟩, .string ⟨⟨p⟩⟩] w fun e w' => ∃ r, e = .returned r ∧ r = .bool (decide (l.take p.length = p)) ∧ Below w.heap.size w w' := by
  refine calls_Wp (args := [_, _]) (n := 18) Tryd.func74 rfl rfl (by simp) ?_
  refine Wp.seq ?_
  refine Wp.region [0] (by kernel_rfl) (by kernel_rfl) ?_
  refine s_assign rfl rfl rfl rfl ?_
  refine vOrd_nil ?_
  refine Wp.seq ?_
  refine Wp.region [0, 1, 2, 3, 4, 5, 6, 7, 8, 9, 10, 11, 12, 13] (by kernel_rfl) (by kernel_rfl) ?_
  refine s_move rfl rfl rfl rfl ?_
  refine b_len rfl rfl rfl rfl rfl ?_
  refine s_move rfl rfl rfl rfl ?_
  refine b_len rfl rfl rfl rfl rfl ?_
  refine p_geq rfl rfl rfl rfl rfl (fun h9 => ?_) (fun h9 => ?_)
  · refine s_move rfl rfl rfl rfl ?_
    refine s_move rfl rfl rfl rfl ?_
    refine s_move rfl rfl rfl rfl ?_
    refine b_len rfl rfl rfl rfl rfl ?_
    refine b_to rfl rfl rfl rfl rfl rfl (by omega) (by omega) ?_
    refine s_move rfl rfl rfl rfl ?_
    refine b_eq rfl rfl rfl rfl rfl (fun h16 => ?_) (fun h16 => ?_)
    · refine s_pick rfl rfl rfl rfl rfl ?_
      refine s_assign rfl rfl rfl rfl ?_
      refine vOrd_nil ?_
      refine Wp.ret ⟨.inr rfl, fun lW => ⟨_, res_tmp (P := Tryd.prog) rfl rfl, _, rfl, ?_, lW⟩⟩
      clear lW
      rw [decide_eq_true (by simpa using h16)]
    · refine s_pick rfl rfl rfl rfl rfl ?_
      refine s_assign rfl rfl rfl rfl ?_
      refine vOrd_nil ?_
      refine Wp.ret ⟨.inr rfl, fun lW => ⟨_, res_tmp (P := Tryd.prog) rfl rfl, _, rfl, ?_, lW⟩⟩
      clear lW
      rw [decide_eq_false (by simpa using h16)]
  · refine s_move rfl rfl rfl rfl ?_
    refine s_skip rfl rfl rfl ?_
    refine s_skip rfl rfl rfl ?_
    refine s_skip rfl rfl rfl ?_
    refine s_skip rfl rfl rfl ?_
    refine s_skip rfl rfl rfl ?_
    refine s_skip rfl rfl rfl ?_
    refine s_pick rfl rfl rfl rfl rfl ?_
    refine s_assign rfl rfl rfl rfl ?_
    refine vOrd_nil ?_
    refine Wp.ret ⟨.inr rfl, fun lW => ⟨_, res_tmp (P := Tryd.prog) rfl rfl, _, rfl, ?_, lW⟩⟩
    clear lW
    rw [decide_eq_false (fun e => by have := congrArg List.length e; rw [List.length_take] at this; omega)]
theorem prefix_any (l p : List UInt8) (w : World) :
    Calls Tryd.prog 55 #[.string ⟨⟨l⟩⟩, .string ⟨⟨p⟩⟩] w fun e w' => ∃ r, e = .returned r ∧ r = .bool (decide (l.take p.length = p)) ∧ Below w.heap.size w w' := by
  refine calls_Wp (args := [_, _]) (n := 8) Tryd.func55 rfl rfl (by simp) ?_
  refine Wp.seq ?_
  refine Wp.region [0] (by kernel_rfl) (by kernel_rfl) ?_
  refine s_assign rfl rfl rfl rfl ?_
  refine vOrd_nil ?_
  refine Wp.seq ?_
  refine Wp.region [0, 1, 2, 3] (by kernel_rfl) (by kernel_rfl) ?_
  refine s_move rfl rfl rfl rfl ?_
  refine s_move rfl rfl rfl rfl ?_
  refine s_callT rfl rfl rfl (by kernel_rfl) rfl (prefixLite_any l p _) ?_
  rintro v w1 rfl lw1
  refine s_assign rfl rfl rfl rfl ?_
  refine vOrd_nil ?_
  refine Wp.ret ⟨.inr rfl, fun lW => ⟨_, res_tmp (P := Tryd.prog) rfl rfl, _, rfl, ?_, lW⟩⟩
  clear lW
  rfl
theorem atEnd_any {b : Nat} {l : List UInt8} {bad : Bool} {w : World} (hv : Var w b [.string ⟨⟨l⟩⟩, .bool bad]) :
    Calls Tryd.prog 77 #[.pointer (some ⟨b, 0, none⟩)] w fun e w' => ∃ v, e = .returned v ∧ (∃ cs', (v = .bool (!bad && decide (l = [])) ∧ cs' = [.string ⟨⟨l⟩⟩, .bool bad]) ∧ Var w' b cs') ∧ Under b w w' := by
  cases bad with
  | true =>
    refine calls_WpB (args := []) (n := 15) hv Tryd.func77 rfl rfl (by simp) ?_
    refine Wp.seq ?_
    refine Wp.region [0] (by kernel_rfl) (by kernel_rfl) ?_
    refine s_assign rfl rfl rfl rfl ?_
    refine vOrd_nil ?_
    refine Wp.seq ?_
    refine Wp.region [0, 1, 2, 3, 4, 5, 6, 7, 8, 9, 10, 11, 12] (by kernel_rfl) (by kernel_rfl) ?_
    refine s_move rfl rfl rfl rfl ?_
    refine s_nil rfl rfl rfl rfl ?_
    refine s_field 1 rfl rfl rfl rfl rfl ?_
    refine s_load rfl rfl rfl rfl rfl rfl rfl ?_
    refine s_not rfl rfl rfl rfl ?_
    refine s_move rfl rfl rfl rfl ?_
    refine s_skip rfl rfl rfl ?_
    refine s_skip rfl rfl rfl ?_
    refine s_skip rfl rfl rfl ?_
    refine s_skip rfl rfl rfl ?_
    refine s_skip rfl rfl rfl ?_
    refine s_pick rfl rfl rfl rfl rfl ?_
    refine s_assign rfl rfl rfl rfl ?_
    refine vOrd_nil ?_
    refine Wp.ret ⟨.inr rfl, fun mW lW => ⟨_, res_tmp (P := Tryd.prog) rfl rfl, _, rfl, ?_, lW⟩⟩
    clear lW
    exact ⟨_, ⟨rfl, rfl⟩, mW 900 _ _ rfl⟩
  | false =>
    refine calls_WpB (args := []) (n := 15) hv Tryd.func77 rfl rfl (by simp) ?_
    refine Wp.seq ?_
    refine Wp.region [0] (by kernel_rfl) (by kernel_rfl) ?_
    refine s_assign rfl rfl rfl rfl ?_
    refine vOrd_nil ?_
    refine Wp.seq ?_
    refine Wp.region [0, 1, 2, 3, 4, 5, 6, 7, 8, 9, 10, 11, 12] (by kernel_rfl) (by kernel_rfl) ?_
    refine s_move rfl rfl rfl rfl ?_
    refine s_nil rfl rfl rfl rfl ?_
    refine s_field 1 rfl rfl rfl rfl rfl ?_
    refine s_load rfl rfl rfl rfl rfl rfl rfl ?_
    refine s_not rfl rfl rfl rfl ?_
    refine s_move rfl rfl rfl rfl ?_
    refine s_move rfl rfl rfl rfl ?_
    refine s_nil rfl rfl rfl rfl ?_
    refine s_field 0 rfl rfl rfl rfl rfl ?_
    refine s_load rfl rfl rfl rfl rfl rfl rfl ?_
    refine b_eq rfl rfl rfl rfl rfl (fun h13 => ?_) (fun h13 => ?_)
    · refine s_pick rfl rfl rfl rfl rfl ?_
      refine s_assign rfl rfl rfl rfl ?_
      refine vOrd_nil ?_
      refine Wp.ret ⟨.inr rfl, fun mW lW => ⟨_, res_tmp (P := Tryd.prog) rfl rfl, _, rfl, ?_, lW⟩⟩
      clear lW
      rw [decide_eq_true h13]
      exact ⟨_, ⟨rfl, rfl⟩, mW 900 _ _ rfl⟩
    · refine s_pick rfl rfl rfl rfl rfl ?_
      refine s_assign rfl rfl rfl rfl ?_
      refine vOrd_nil ?_
      refine Wp.ret ⟨.inr rfl, fun mW lW => ⟨_, res_tmp (P := Tryd.prog) rfl rfl, _, rfl, ?_, lW⟩⟩
      clear lW
      rw [decide_eq_false h13]
      exact ⟨_, ⟨rfl, rfl⟩, mW 900 _ _ rfl⟩
theorem atRemark_any {b : Nat} {l : List UInt8} {bad : Bool} {w : World} (hv : Var w b [.string ⟨⟨l⟩⟩, .bool bad]) :
    Calls Tryd.prog 81 #[.pointer (some ⟨b, 0, none⟩)] w fun e w' => ∃ v, e = .returned v ∧ (∃ cs', (v = .bool (!bad && decide (l.take 1 = [35])) ∧ cs' = [.string ⟨⟨l⟩⟩, .bool bad]) ∧ Var w' b cs') ∧ Under b w w' := by
  cases bad with
  | true =>
    refine calls_WpB (args := []) (n := 15) hv Tryd.func81 rfl rfl (by simp) ?_
    refine Wp.seq ?_
    refine Wp.region [0] (by kernel_rfl) (by kernel_rfl) ?_
    refine s_assign rfl rfl rfl rfl ?_
    refine vOrd_nil ?_
    refine Wp.seq ?_
    refine Wp.region [0, 1, 2, 3, 4, 5, 6, 7, 8, 9, 10, 11, 12] (by kernel_rfl) (by kernel_rfl) ?_
    refine s_move rfl rfl rfl rfl ?_
    refine s_nil rfl rfl rfl rfl ?_
    refine s_field 1 rfl rfl rfl rfl rfl ?_
    refine s_load rfl rfl rfl rfl rfl rfl rfl ?_
    refine s_not rfl rfl rfl rfl ?_
    refine s_move rfl rfl rfl rfl ?_
    refine s_skip rfl rfl rfl ?_
    refine s_skip rfl rfl rfl ?_
    refine s_skip rfl rfl rfl ?_
    refine s_skip rfl rfl rfl ?_
    refine s_skip rfl rfl rfl ?_
    refine s_pick rfl rfl rfl rfl rfl ?_
    refine s_assign rfl rfl rfl rfl ?_
    refine vOrd_nil ?_
    refine Wp.ret ⟨.inr rfl, fun mW lW => ⟨_, res_tmp (P := Tryd.prog) rfl rfl, _, rfl, ?_, lW⟩⟩
    clear lW
    exact ⟨_, ⟨rfl, rfl⟩, mW 900 _ _ rfl⟩
  | false =>
    refine calls_WpB (args := []) (n := 15) hv Tryd.func81 rfl rfl (by simp) ?_
    refine Wp.seq ?_
    refine Wp.region [0] (by kernel_rfl) (by kernel_rfl) ?_
    refine s_assign rfl rfl rfl rfl ?_
    refine vOrd_nil ?_
    refine Wp.seq ?_
    refine Wp.region [0, 1, 2, 3, 4, 5, 6, 7, 8, 9, 10, 11, 12] (by kernel_rfl) (by kernel_rfl) ?_
    refine s_move rfl rfl rfl rfl ?_
    refine s_nil rfl rfl rfl rfl ?_
    refine s_field 1 rfl rfl rfl rfl rfl ?_
    refine s_load rfl rfl rfl rfl rfl rfl rfl ?_
    refine s_not rfl rfl rfl rfl ?_
    refine s_move rfl rfl rfl rfl ?_
    refine s_move rfl rfl rfl rfl ?_
    refine s_nil rfl rfl rfl rfl ?_
    refine s_field 0 rfl rfl rfl rfl rfl ?_
    refine s_load rfl rfl rfl rfl rfl rfl rfl ?_
    refine s_callT rfl rfl rfl (by kernel_rfl) rfl (prefix_any l [35] _) ?_
    rintro v w1 rfl lw1
    refine s_pick rfl rfl rfl rfl rfl ?_
    refine s_assign rfl rfl rfl rfl ?_
    refine vOrd_nil ?_
    refine Wp.ret ⟨.inr rfl, fun mW lW => ⟨_, res_tmp (P := Tryd.prog) rfl rfl, _, rfl, ?_, lW⟩⟩
    clear lW
    exact ⟨_, ⟨rfl, rfl⟩, mW 900 _ _ rfl⟩
end Go.Proofs.YthjgilocbfhffaaDoor
