/-
  The contracts of lex.blank, stamp, hash, data and Scan. Of lines of no more than 2^63 - 1 bytes.
-/
import Derived.Test.YthjgilocbfhffaaDoorLexS
namespace Go.Proofs.YthjgilocbfhffaaDoor
open Go.RowKit
set_option maxRecDepth 100000

theorem blank_any (l : List UInt8) (hl : l.length ≤ 9223372036854775807) (w : World) :
    Calls Tryd.prog 59 #[.string ⟨⟨l⟩⟩] w fun e w' => ∃ r, e = .returned r ∧ r = .bool (decide (aB l = [])) ∧ Below w.heap.size w w' := by
  refine calls_Wp (args := [_]) (n := 8) Tryd.func59 rfl rfl (by simp) ?_
  refine Wp.seq ?_
  refine Wp.region [0] (by kernel_rfl) (by kernel_rfl) ?_
  refine s_assign rfl rfl rfl rfl ?_
  refine vOrd_nil ?_
  refine Wp.seq ?_
  refine Wp.region [0, 1, 2, 3] (by kernel_rfl) (by kernel_rfl) ?_
  refine s_move rfl rfl rfl rfl ?_
  refine s_build rfl rfl rfl rfl rfl (by kernel_rfl) ?_
  refine s_alloc rfl rfl rfl rfl rfl (fun bk1 w1 kb1 lw1 => ?_)
  refine s_store rfl rfl rfl rfl rfl rfl rfl (fun w2 sw2 vw2 => ?_)
  refine vOrd_nil ?_
  refine Wp.seq ?_
  refine Wp.region [0] (by kernel_rfl) (by kernel_rfl) ?_
  refine s_callB 3 (fun _ => false) rfl rfl rfl (by kernel_rfl) rfl rfl keep_none (fun vr => blanks_any vr hl) ?_
  rintro v cs3 w3 ⟨rfl, rfl⟩ uw3 vw3
  refine vOrd_nil ?_
  refine Wp.seq ?_
  refine Wp.region [0, 1] (by kernel_rfl) (by kernel_rfl) ?_
  refine s_callB 3 (fun _ => false) rfl rfl rfl (by kernel_rfl) rfl rfl keep_none (fun vr => atEnd_any vr) ?_
  rintro v cs4 w4 ⟨rfl, rfl⟩ uw4 vw4
  refine s_assign rfl rfl rfl rfl ?_
  refine vOrd_nil ?_
  refine Wp.ret ⟨.inr rfl, fun lW => ⟨_, res_tmp (P := Tryd.prog) rfl rfl, _, rfl, ?_, lW⟩⟩
  clear lW
  rfl
theorem stamp_any (k : Int) (l : List UInt8) (hl : l.length ≤ 9223372036854775807) (w : World) :
    Calls Tryd.prog 60 #[.int .i64 k, .string ⟨⟨l⟩⟩] w fun e w' => ∃ r, e = .returned r ∧ r = .tuple #[.agg ((stampL k l).getD zeroC).toArray, .bool (stampL k l).isSome] ∧ Below w.heap.size w w' := by
  have hl1 := aB_len l
  have hl2 := dR_len 10 (aB l)
  refine calls_Wp (args := [_, _]) (n := 19) Tryd.func60 rfl rfl (by simp) ?_
  refine Wp.seq ?_
  refine Wp.region [0, 1] (by kernel_rfl) (by kernel_rfl) ?_
  refine s_alloc rfl rfl rfl rfl rfl (fun bk1 w1 kb1 lw1 => ?_)
  refine s_assign rfl rfl rfl rfl ?_
  refine vOrd_nil ?_
  refine Wp.seq ?_
  refine Wp.var (h := 4) rfl (fun v4 => ?_)
  have q4 := v4.lt
  refine Wp.region [0, 1, 2, 3] (by kernel_rfl) (by kernel_rfl) ?_
  refine s_move rfl rfl rfl rfl ?_
  refine s_build rfl rfl rfl rfl rfl (by kernel_rfl) ?_
  refine s_alloc rfl rfl rfl rfl rfl (fun bk2 w2 kb2 lw2 => ?_)
  refine s_store rfl rfl rfl rfl rfl rfl rfl (fun w3 sw3 vw3 => ?_)
  refine vOrd_nil ?_
  refine Wp.seq ?_
  refine Wp.region [0] (by kernel_rfl) (by kernel_rfl) ?_
  refine s_callB 6 (fun g => Nat.beq g 4) rfl rfl rfl (by kernel_rfl) rfl rfl (keep_1 rfl (by omega)) (fun vr => gap_any vr hl) ?_
  rintro v cs4 w4 ⟨rfl, rfl⟩ uw4 vw4
  refine vOrd_nil ?_
  refine Wp.seq ?_
  refine Wp.region [0, 1] (by kernel_rfl) (by kernel_rfl) ?_
  refine s_callB 6 (fun g => Nat.beq g 4) rfl rfl rfl (by kernel_rfl) rfl rfl (keep_1 rfl (by omega)) (fun vr => number_any vr (by omega)) ?_
  rintro v cs5 w5 ⟨rfl, rfl⟩ uw5 vw5
  refine s_assign rfl rfl rfl rfl ?_
  refine vOrd_nil ?_
  refine Wp.seq ?_
  refine Wp.region [0] (by kernel_rfl) (by kernel_rfl) ?_
  refine s_callB 6 (fun g => Nat.beq g 4) rfl rfl rfl (by kernel_rfl) rfl rfl (keep_1 rfl (by omega)) (fun vr => blanks_any vr (by omega)) ?_
  rintro v cs6 w6 ⟨rfl, rfl⟩ uw6 vw6
  refine vOrd_nil ?_
  refine Wp.seq ?_
  refine Wp.seq ?_
  refine Wp.region [0, 1] (by kernel_rfl) (by kernel_rfl) ?_
  refine s_callB 6 (fun g => Nat.beq g 4) rfl rfl rfl (by kernel_rfl) rfl rfl (keep_1 rfl (by omega)) (fun vr => atEnd_any vr) ?_
  rintro v cs7 w7 ⟨rfl, rfl⟩ uw7 vw7
  rcases Bool.eq_false_or_eq_true (!(false || nB l || numBad (aB l)) && decide (aB (dR 10 (aB l)) = [])) with h13 | h13
  · rw [h13]
    refine s_not rfl rfl rfl rfl ?_
    refine vOrd_nil ?_
    refine Wp.condF rfl rfl ?_
    refine Wp.skip ?_
    refine Wp.seq ?_
    refine Wp.region [0, 1, 2, 3, 4] (by kernel_rfl) (by kernel_rfl) ?_
    refine s_move rfl rfl rfl rfl ?_
    refine s_move rfl rfl rfl rfl ?_
    refine s_build rfl rfl rfl rfl rfl (by kernel_rfl) ?_
    refine s_store rfl rfl rfl rfl rfl rfl rfl (fun w8 sw8 vw8 => ?_)
    refine s_assign rfl rfl rfl rfl ?_
    refine vOrd_nil ?_
    refine Wp.ret ⟨.inr rfl, fun lW => ⟨_, ⟨_, _, res_cell rfl rfl rfl rfl, res_tmp (P := Tryd.prog) rfl rfl, rfl⟩, _, rfl, ?_, lW⟩⟩
    clear lW
    have hs : stOk l = true := h13
    rw [show stampL k l = some (lineC k (numVal (aB l)) 0 z5) by unfold stampL; rw [if_pos hs]]
    rfl
  · rw [h13]
    refine s_not rfl rfl rfl rfl ?_
    refine vOrd_nil ?_
    refine Wp.condT rfl rfl ?_
    refine Wp.seq ?_
    refine Wp.region [0, 1, 2] (by kernel_rfl) (by kernel_rfl) ?_
    refine s_build rfl rfl rfl rfl rfl (by kernel_rfl) ?_
    refine s_store rfl rfl rfl rfl rfl rfl rfl (fun w9 sw9 vw9 => ?_)
    refine s_assign rfl rfl rfl rfl ?_
    refine vOrd_nil ?_
    refine Wp.ret ⟨.inr rfl, fun lW => ⟨_, ⟨_, _, res_cell rfl rfl rfl rfl, res_tmp (P := Tryd.prog) rfl rfl, rfl⟩, _, rfl, ?_, lW⟩⟩
    clear lW
    have hs : stOk l = false := h13
    rw [show stampL k l = none by unfold stampL; rw [if_neg (by rw [hs]; decide)]]
    rfl
theorem hash_any (l : List UInt8) (hl : l.length ≤ 9223372036854775807) (w : World) :
    Calls Tryd.prog 61 #[.string ⟨⟨l⟩⟩] w fun e w' => ∃ r, e = .returned r ∧ r = .tuple #[.agg ((hashL l).getD zeroC).toArray, .bool (hashL l).isSome] ∧ Below w.heap.size w w' := by
  refine calls_Wp (args := [_]) (n := 24) Tryd.func61 rfl rfl (by simp) ?_
  refine Wp.seq ?_
  refine Wp.region [0, 1] (by kernel_rfl) (by kernel_rfl) ?_
  refine s_alloc rfl rfl rfl rfl rfl (fun bk1 w1 kb1 lw1 => ?_)
  refine s_assign rfl rfl rfl rfl ?_
  refine vOrd_nil ?_
  refine Wp.seq ?_
  refine Wp.region [0, 1, 2] (by kernel_rfl) (by kernel_rfl) ?_
  refine s_build rfl rfl rfl rfl rfl (by kernel_rfl) ?_
  refine s_alloc rfl rfl rfl rfl rfl (fun bk2 w2 kb2 lw2 => ?_)
  refine s_store rfl rfl rfl rfl rfl rfl rfl (fun w3 sw3 vw3 => ?_)
  refine vOrd_nil ?_
  refine Wp.seq ?_
  refine Wp.var (h := 2) rfl (fun v2 => ?_)
  have q2 := v2.lt
  refine Wp.var (h := 4) rfl (fun v4 => ?_)
  have q4 := v4.lt
  refine Wp.region [0, 1, 2, 3] (by kernel_rfl) (by kernel_rfl) ?_
  refine s_move rfl rfl rfl rfl ?_
  refine s_build rfl rfl rfl rfl rfl (by kernel_rfl) ?_
  refine s_alloc rfl rfl rfl rfl rfl (fun bk4 w4 kb4 lw4 => ?_)
  refine s_store rfl rfl rfl rfl rfl rfl rfl (fun w5 sw5 vw5 => ?_)
  refine vOrd_nil ?_
  refine Wp.seq ?_
  refine Wp.seq ?_
  refine Wp.region [0] (by kernel_rfl) (by kernel_rfl) ?_
  refine s_move rfl rfl rfl rfl ?_
  refine vOrd_nil ?_
  refine Wp.block ?_
  refine Wp.loop (fun k st _ => ∃ (n : Nat), st = St.of [(2, .p 2 bk1 0), (4, .p 4 bk2 0), (5, .p 5 bk4 0), (10, .v (.int .i64 n))] [(2, bk1, zeroC), (4, bk2, lineC 4 0 0 (hWs n l)), (5, bk4, [.string ⟨⟨hLeft n l⟩⟩, .bool (hBad n l)])] ∧ n ≤ 5 ∧ k = 5 - n) ?_ ?_
  · exact ⟨_, _, (St.of_le' (env := [(2, .p 2 _ 0), (4, .p 4 _ 0), (5, .p 5 _ 0), (10, .v _)]) (mem := [(2, _, _), (4, _, _), (5, _, [_, _])]) ⟨rfl, rfl, rfl, rfl, trivial⟩ ⟨rfl, rfl, rfl, trivial⟩), 0, rfl, by omega, rfl⟩
  · rintro k st w6 ⟨n, rfl, hn, rfl⟩
    refine Wp.seq ?_
    refine Wp.region [0] (by kernel_rfl) (by kernel_rfl) ?_
    refine p_lss rfl rfl rfl rfl rfl (fun h11 => ?_) (fun h11 => ?_)
    · refine vOrd_nil ?_
      refine Wp.seq ?_
      refine Wp.condT rfl rfl ?_
      refine Wp.skip ?_
      refine Wp.seq ?_
      refine Wp.block ?_
      refine Wp.seq ?_
      refine Wp.region [0, 1] (by kernel_rfl) (by kernel_rfl) ?_
      refine s_move rfl rfl rfl rfl ?_
      refine s_assign rfl rfl rfl rfl ?_
      refine vOrd_nil ?_
      refine Wp.seq ?_
      have hl0 := hLeft_len n l
      have hl1 := aB_len (hLeft n l)
      refine Wp.region [0] (by kernel_rfl) (by kernel_rfl) ?_
      refine s_callB 5 (fun g => Nat.beq g 2 || Nat.beq g 4) rfl rfl rfl (by kernel_rfl) rfl rfl (keep_2 rfl (by omega) rfl (by omega)) (fun vr => gap_any vr (by omega)) ?_
      rintro v cs7 w7 ⟨rfl, rfl⟩ uw7 vw7
      refine vOrd_nil ?_
      refine Wp.region [0, 1, 2, 3, 4] (by kernel_rfl) (by kernel_rfl) ?_
      refine s_move rfl rfl rfl rfl ?_
      refine s_callB 5 (fun g => Nat.beq g 2 || Nat.beq g 4) rfl rfl rfl (by kernel_rfl) rfl rfl (keep_2 rfl (by omega) rfl (by omega)) (fun vr => word_any vr (by omega)) ?_
      rintro v cs8 w8 ⟨rfl, rfl⟩ uw8 vw8
      refine s_field 3 rfl rfl rfl rfl rfl ?_
      refine s_idxO (sz := 1) (3 + (n) * 1) rfl rfl rfl rfl rfl rfl rfl (by omega) (by omega) (by omega) ?_
      refine s_storeS rfl rfl rfl rfl rfl rfl (write_word rfl (by omega)) (fun ws9 ss9 vs9 => ?_)
      refine vOrd_nil ?_
      refine Wp.region [0, 1] (by kernel_rfl) (by kernel_rfl) ?_
      refine a_add (-9223372036854775808) 9223372036854775807 (by decide) rfl rfl rfl rfl rfl (by omega) (by omega) ?_
      refine s_move rfl rfl rfl rfl ?_
      refine vOrd_nil ?_
      exact ⟨_, _, by omega, (St.of_le' (env := [(2, .p 2 _ 0), (4, .p 4 _ 0), (5, .p 5 _ 0), (10, .v _)]) (mem := [(2, _, _), (4, _, _), (5, _, [_, _])]) ⟨rfl, rfl, rfl, rfl, trivial⟩ ⟨rfl, rfl, rfl, trivial⟩), n + 1, rfl, by omega, rfl⟩
    · have hn5 : n = 5 := by omega
      subst hn5
      refine vOrd_nil ?_
      refine Wp.seq ?_
      refine Wp.condF rfl rfl ?_
      refine Wp.exit ?_
      refine Wp.seq ?_
      have hl0 := hLeft_len 5 l
      refine Wp.region [0] (by kernel_rfl) (by kernel_rfl) ?_
      refine s_callB 5 (fun g => Nat.beq g 2 || Nat.beq g 4) rfl rfl rfl (by kernel_rfl) rfl rfl (keep_2 rfl (by omega) rfl (by omega)) (fun vr => blanks_any vr (by omega)) ?_
      rintro v cs10 w10 ⟨rfl, rfl⟩ uw10 vw10
      refine vOrd_nil ?_
      refine Wp.seq ?_
      refine Wp.seq ?_
      refine Wp.region [0, 1] (by kernel_rfl) (by kernel_rfl) ?_
      refine s_callB 5 (fun g => Nat.beq g 2 || Nat.beq g 4) rfl rfl rfl (by kernel_rfl) rfl rfl (keep_2 rfl (by omega) rfl (by omega)) (fun vr => atEnd_any vr) ?_
      rintro v cs11 w11 ⟨rfl, rfl⟩ uw11 vw11
      rcases Bool.eq_false_or_eq_true (!hBad 5 l && decide (aB (hLeft 5 l) = [])) with h20 | h20
      · rw [h20]
        refine s_not rfl rfl rfl rfl ?_
        refine vOrd_nil ?_
        refine Wp.condF rfl rfl ?_
        refine Wp.skip ?_
        refine Wp.seq ?_
        refine Wp.region [0, 1, 2] (by kernel_rfl) (by kernel_rfl) ?_
        refine s_loadS rfl rfl rfl rfl rfl (read_all rfl rfl (lineC_len (hWs_len (Nat.le_refl 5) l))) ?_
        refine s_storeS rfl rfl rfl rfl rfl rfl (write_all rfl rfl (lineC_len (hWs_len (Nat.le_refl 5) l)) (lineC_one _ _ _ _)) (fun ws13 ss13 vs13 => ?_)
        refine s_assign rfl rfl rfl rfl ?_
        refine vOrd_nil ?_
        refine Wp.ret ⟨.inr rfl, fun lW => ⟨_, ⟨_, _, res_cellS rfl rfl (read_all rfl rfl (lineC_len (hWs_len (Nat.le_refl 5) l))), res_tmp (P := Tryd.prog) rfl rfl, rfl⟩, _, rfl, ?_, lW⟩⟩
        clear lW
        have hs : hOk l = true := h20
        rw [show hashL l = some (lineC 4 0 0 (hWs 5 l)) by unfold hashL; rw [if_pos hs]]
        rfl
      · rw [h20]
        refine s_not rfl rfl rfl rfl ?_
        refine vOrd_nil ?_
        refine Wp.condT rfl rfl ?_
        refine Wp.seq ?_
        refine Wp.region [0, 1, 2] (by kernel_rfl) (by kernel_rfl) ?_
        refine s_build rfl rfl rfl rfl rfl (by kernel_rfl) ?_
        refine s_store rfl rfl rfl rfl rfl rfl rfl (fun w14 sw14 vw14 => ?_)
        refine s_assign rfl rfl rfl rfl ?_
        refine vOrd_nil ?_
        refine Wp.ret ⟨.inr rfl, fun lW => ⟨_, ⟨_, _, res_cell rfl rfl rfl rfl, res_tmp (P := Tryd.prog) rfl rfl, rfl⟩, _, rfl, ?_, lW⟩⟩
        clear lW
        have hs : hOk l = false := h20
        rw [show hashL l = none by unfold hashL; rw [if_neg (by rw [hs]; decide)]]
        rfl
theorem data_any (l : List UInt8) (hl : l.length ≤ 9223372036854775807) (w : World) :
    Calls Tryd.prog 62 #[.string ⟨⟨l⟩⟩] w fun e w' => ∃ r, e = .returned r ∧ r = .tuple #[.agg ((dataL l).getD zeroC).toArray, .bool (dataL l).isSome] ∧ Below w.heap.size w w' := by
  have hl1 := dR_len 10 l
  have hl2 := aB_len (dR 10 l)
  have hl3 := dR_len 10 (aB (dR 10 l))
  refine calls_Wp (args := [_]) (n := 28) Tryd.func62 rfl rfl (by simp) ?_
  refine Wp.seq ?_
  refine Wp.region [0, 1] (by kernel_rfl) (by kernel_rfl) ?_
  refine s_alloc rfl rfl rfl rfl rfl (fun bk1 w1 kb1 lw1 => ?_)
  refine s_assign rfl rfl rfl rfl ?_
  refine vOrd_nil ?_
  refine Wp.seq ?_
  refine Wp.var (h := 2) rfl (fun v2 => ?_)
  have q2 := v2.lt
  refine Wp.region [0, 1, 2, 3] (by kernel_rfl) (by kernel_rfl) ?_
  refine s_move rfl rfl rfl rfl ?_
  refine s_build rfl rfl rfl rfl rfl (by kernel_rfl) ?_
  refine s_alloc rfl rfl rfl rfl rfl (fun bk2 w2 kb2 lw2 => ?_)
  refine s_store rfl rfl rfl rfl rfl rfl rfl (fun w3 sw3 vw3 => ?_)
  refine vOrd_nil ?_
  refine Wp.seq ?_
  refine Wp.region [0, 1] (by kernel_rfl) (by kernel_rfl) ?_
  refine s_callB 4 (fun g => Nat.beq g 2) rfl rfl rfl (by kernel_rfl) rfl rfl (keep_1 rfl (by omega)) (fun vr => number_any vr hl) ?_
  rintro v cs4 w4 ⟨rfl, rfl⟩ uw4 vw4
  refine s_assign rfl rfl rfl rfl ?_
  refine vOrd_nil ?_
  refine Wp.seq ?_
  refine Wp.region [0] (by kernel_rfl) (by kernel_rfl) ?_
  refine s_callB 4 (fun g => Nat.beq g 2) rfl rfl rfl (by kernel_rfl) rfl rfl (keep_1 rfl (by omega)) (fun vr => gap_any vr (by omega)) ?_
  rintro v cs5 w5 ⟨rfl, rfl⟩ uw5 vw5
  refine vOrd_nil ?_
  refine Wp.seq ?_
  refine Wp.region [0, 1] (by kernel_rfl) (by kernel_rfl) ?_
  refine s_callB 4 (fun g => Nat.beq g 2) rfl rfl rfl (by kernel_rfl) rfl rfl (keep_1 rfl (by omega)) (fun vr => number_any vr (by omega)) ?_
  rintro v cs6 w6 ⟨rfl, rfl⟩ uw6 vw6
  refine s_assign rfl rfl rfl rfl ?_
  refine vOrd_nil ?_
  refine Wp.seq ?_
  refine Wp.region [0, 1, 2] (by kernel_rfl) (by kernel_rfl) ?_
  refine s_callB 4 (fun g => Nat.beq g 2) rfl rfl rfl (by kernel_rfl) rfl rfl (keep_1 rfl (by omega)) (fun vr => blanks_any vr (by omega)) ?_
  rintro v cs7 w7 ⟨rfl, rfl⟩ uw7 vw7
  refine p_gtr rfl rfl rfl rfl rfl (fun h14 => ?_) (fun h14 => ?_)
  · refine s_assign rfl rfl rfl rfl ?_
    refine vOrd_nil ?_
    refine Wp.seq ?_
    refine Wp.seq ?_
    refine Wp.region [0, 1, 2, 3, 4, 5, 6, 7, 8] (by kernel_rfl) (by kernel_rfl) ?_
    refine s_callB 4 (fun g => Nat.beq g 2) rfl rfl rfl (by kernel_rfl) rfl rfl (keep_1 rfl (by omega)) (fun vr => atEnd_any vr) ?_
    rintro v cs8 w8 ⟨rfl, rfl⟩ uw8 vw8
    rcases Bool.eq_false_or_eq_true (!(false || numBad l || nB (dR 10 l) || numBad (aB (dR 10 l))) && decide (aB (dR 10 (aB (dR 10 l))) = [])) with h15 | h15
    · rw [h15]
      refine s_not rfl rfl rfl rfl ?_
      refine s_move rfl rfl rfl rfl ?_
      refine s_skip rfl rfl rfl ?_
      refine s_skip rfl rfl rfl ?_
      refine s_skip rfl rfl rfl ?_
      refine s_skip rfl rfl rfl ?_
      refine s_skip rfl rfl rfl ?_
      refine s_pick rfl rfl rfl rfl rfl ?_
      refine vOrd_nil ?_
      refine Wp.condF rfl rfl ?_
      refine Wp.skip ?_
      refine Wp.seq ?_
      refine Wp.region [0, 1, 2, 3, 4] (by kernel_rfl) (by kernel_rfl) ?_
      refine s_move rfl rfl rfl rfl ?_
      refine s_move rfl rfl rfl rfl ?_
      refine s_build rfl rfl rfl rfl rfl (by kernel_rfl) ?_
      refine s_store rfl rfl rfl rfl rfl rfl rfl (fun w9 sw9 vw9 => ?_)
      refine s_assign rfl rfl rfl rfl ?_
      refine vOrd_nil ?_
      refine Wp.ret ⟨.inr rfl, fun lW => ⟨_, ⟨_, _, res_cell rfl rfl rfl rfl, res_tmp (P := Tryd.prog) rfl rfl, rfl⟩, _, rfl, ?_, lW⟩⟩
      clear lW
      have hs : daOk l = true := data_yes1 h15
      rw [show dataL l = some (lineC 5 (numVal l) (numVal (aB (dR 10 l))) z5) by unfold dataL; rw [if_pos hs]]
      rfl
    · rw [h15]
      refine s_not rfl rfl rfl rfl ?_
      refine s_move rfl rfl rfl rfl ?_
      refine s_move rfl rfl rfl rfl ?_
      refine s_move rfl rfl rfl rfl ?_
      refine s_callB 4 (fun g => Nat.beq g 2) rfl rfl rfl (by kernel_rfl) rfl rfl (keep_1 rfl (by omega)) (fun vr => atRemark_any vr) ?_
      rintro v cs10 w10 ⟨rfl, rfl⟩ uw10 vw10
      rcases Bool.eq_false_or_eq_true (!(false || numBad l || nB (dR 10 l) || numBad (aB (dR 10 l))) && decide ((aB (dR 10 (aB (dR 10 l)))).take 1 = [35])) with h20 | h20
      · rw [h20]
        refine s_pick rfl rfl rfl rfl rfl ?_
        refine s_not rfl rfl rfl rfl ?_
        refine s_pick rfl rfl rfl rfl rfl ?_
        refine vOrd_nil ?_
        refine Wp.condF rfl rfl ?_
        refine Wp.skip ?_
        refine Wp.seq ?_
        refine Wp.region [0, 1, 2, 3, 4] (by kernel_rfl) (by kernel_rfl) ?_
        refine s_move rfl rfl rfl rfl ?_
        refine s_move rfl rfl rfl rfl ?_
        refine s_build rfl rfl rfl rfl rfl (by kernel_rfl) ?_
        refine s_store rfl rfl rfl rfl rfl rfl rfl (fun w11 sw11 vw11 => ?_)
        refine s_assign rfl rfl rfl rfl ?_
        refine vOrd_nil ?_
        refine Wp.ret ⟨.inr rfl, fun lW => ⟨_, ⟨_, _, res_cell rfl rfl rfl rfl, res_tmp (P := Tryd.prog) rfl rfl, rfl⟩, _, rfl, ?_, lW⟩⟩
        clear lW
        have hn : nB (dR 10 (aB (dR 10 l))) = false := decide_eq_false (fun e => by rw [e] at h14; simp at h14)
        have hs : daOk l = true := data_yes2 hn h20
        rw [show dataL l = some (lineC 5 (numVal l) (numVal (aB (dR 10 l))) z5) by unfold dataL; rw [if_pos hs]]
        rfl
      · rw [h20]
        refine s_pick rfl rfl rfl rfl rfl ?_
        refine s_not rfl rfl rfl rfl ?_
        refine s_pick rfl rfl rfl rfl rfl ?_
        refine vOrd_nil ?_
        refine Wp.condT rfl rfl ?_
        refine Wp.seq ?_
        refine Wp.region [0, 1, 2] (by kernel_rfl) (by kernel_rfl) ?_
        refine s_build rfl rfl rfl rfl rfl (by kernel_rfl) ?_
        refine s_store rfl rfl rfl rfl rfl rfl rfl (fun w12 sw12 vw12 => ?_)
        refine s_assign rfl rfl rfl rfl ?_
        refine vOrd_nil ?_
        refine Wp.ret ⟨.inr rfl, fun lW => ⟨_, ⟨_, _, res_cell rfl rfl rfl rfl, res_tmp (P := Tryd.prog) rfl rfl, rfl⟩, _, rfl, ?_, lW⟩⟩
        clear lW
        have hn : nB (dR 10 (aB (dR 10 l))) = false := decide_eq_false (fun e => by rw [e] at h14; simp at h14)
        have hs : daOk l = false := data_no h15 (.inr h20)
        rw [show dataL l = none by unfold dataL; rw [if_neg (by rw [hs]; decide)]]
        rfl
  · refine s_assign rfl rfl rfl rfl ?_
    refine vOrd_nil ?_
    refine Wp.seq ?_
    refine Wp.seq ?_
    refine Wp.region [0, 1, 2, 3, 4, 5, 6, 7, 8] (by kernel_rfl) (by kernel_rfl) ?_
    refine s_callB 4 (fun g => Nat.beq g 2) rfl rfl rfl (by kernel_rfl) rfl rfl (keep_1 rfl (by omega)) (fun vr => atEnd_any vr) ?_
    rintro v cs13 w13 ⟨rfl, rfl⟩ uw13 vw13
    rcases Bool.eq_false_or_eq_true (!(false || numBad l || nB (dR 10 l) || numBad (aB (dR 10 l))) && decide (aB (dR 10 (aB (dR 10 l))) = [])) with h15 | h15
    · rw [h15]
      refine s_not rfl rfl rfl rfl ?_
      refine s_move rfl rfl rfl rfl ?_
      refine s_skip rfl rfl rfl ?_
      refine s_skip rfl rfl rfl ?_
      refine s_skip rfl rfl rfl ?_
      refine s_skip rfl rfl rfl ?_
      refine s_skip rfl rfl rfl ?_
      refine s_pick rfl rfl rfl rfl rfl ?_
      refine vOrd_nil ?_
      refine Wp.condF rfl rfl ?_
      refine Wp.skip ?_
      refine Wp.seq ?_
      refine Wp.region [0, 1, 2, 3, 4] (by kernel_rfl) (by kernel_rfl) ?_
      refine s_move rfl rfl rfl rfl ?_
      refine s_move rfl rfl rfl rfl ?_
      refine s_build rfl rfl rfl rfl rfl (by kernel_rfl) ?_
      refine s_store rfl rfl rfl rfl rfl rfl rfl (fun w14 sw14 vw14 => ?_)
      refine s_assign rfl rfl rfl rfl ?_
      refine vOrd_nil ?_
      refine Wp.ret ⟨.inr rfl, fun lW => ⟨_, ⟨_, _, res_cell rfl rfl rfl rfl, res_tmp (P := Tryd.prog) rfl rfl, rfl⟩, _, rfl, ?_, lW⟩⟩
      clear lW
      have hs : daOk l = true := data_yes1 h15
      rw [show dataL l = some (lineC 5 (numVal l) (numVal (aB (dR 10 l))) z5) by unfold dataL; rw [if_pos hs]]
      rfl
    · rw [h15]
      refine s_not rfl rfl rfl rfl ?_
      refine s_move rfl rfl rfl rfl ?_
      refine s_move rfl rfl rfl rfl ?_
      refine s_move rfl rfl rfl rfl ?_
      refine s_skip rfl rfl rfl ?_
      refine s_pick rfl rfl rfl rfl rfl ?_
      refine s_not rfl rfl rfl rfl ?_
      refine s_pick rfl rfl rfl rfl rfl ?_
      refine vOrd_nil ?_
      refine Wp.condT rfl rfl ?_
      refine Wp.seq ?_
      refine Wp.region [0, 1, 2] (by kernel_rfl) (by kernel_rfl) ?_
      refine s_build rfl rfl rfl rfl rfl (by kernel_rfl) ?_
      refine s_store rfl rfl rfl rfl rfl rfl rfl (fun w15 sw15 vw15 => ?_)
      refine s_assign rfl rfl rfl rfl ?_
      refine vOrd_nil ?_
      refine Wp.ret ⟨.inr rfl, fun lW => ⟨_, ⟨_, _, res_cell rfl rfl rfl rfl, res_tmp (P := Tryd.prog) rfl rfl, rfl⟩, _, rfl, ?_, lW⟩⟩
      clear lW
      have hn : nB (dR 10 (aB (dR 10 l))) = true := decide_eq_true (List.eq_nil_of_length_eq_zero (by omega))
      have hs : daOk l = false := data_no h15 (.inl hn)
      rw [show dataL l = none by unfold dataL; rw [if_neg (by rw [hs]; decide)]]
      rfl
theorem two_len {l : List UInt8} {a b : UInt8} (h : l.take 2 = [a, b]) : 2 ≤ l.length := by have := congrArg List.length h; rw [List.length_take] at this; simp at this; omega
theorem scan_any (l : List UInt8) (hl : l.length ≤ 9223372036854775807) (w : World) :
    Calls Tryd.prog 40 #[.string ⟨⟨l⟩⟩] w fun e w' => ∃ r, e = .returned r ∧ r = .tuple #[.agg ((scanL l).getD zeroC).toArray, .bool (scanL l).isSome] ∧ Below w.heap.size w w' := by
  refine calls_Wp (args := [_]) (n := 40) Tryd.func40 rfl rfl (by simp) ?_
  refine Wp.seq ?_
  refine Wp.region [0, 1] (by kernel_rfl) (by kernel_rfl) ?_
  refine s_alloc rfl rfl rfl rfl rfl (fun bk1 w1 kb1 lw1 => ?_)
  refine s_assign rfl rfl rfl rfl ?_
  refine vOrd_nil ?_
  refine Wp.seq ?_
  refine Wp.block ?_
  refine Wp.seq ?_
  refine Wp.region [0, 1, 2] (by kernel_rfl) (by kernel_rfl) ?_
  refine s_move rfl rfl rfl rfl ?_
  refine s_callT rfl rfl rfl (by kernel_rfl) rfl (blank_any l hl _) ?_
  rintro v w2 rfl lw2
  rcases Bool.eq_false_or_eq_true (decide (aB l = [])) with h6 | h6
  · rw [h6]
    have e0 := of_decide_eq_true h6
    refine s_assign rfl rfl rfl rfl ?_
    refine vOrd_nil ?_
    refine Wp.condT rfl rfl ?_
    refine Wp.seq ?_
    refine Wp.region [0, 1, 2] (by kernel_rfl) (by kernel_rfl) ?_
    refine s_build rfl rfl rfl rfl rfl (by kernel_rfl) ?_
    refine s_store rfl rfl rfl rfl rfl rfl rfl (fun w3 sw3 vw3 => ?_)
    refine s_assign rfl rfl rfl rfl ?_
    refine vOrd_nil ?_
    refine Wp.ret ⟨.inr rfl, fun lW => ⟨_, ⟨_, _, res_cell rfl rfl rfl rfl, res_tmp (P := Tryd.prog) rfl rfl, rfl⟩, _, rfl, ?_, lW⟩⟩
    clear lW
    rw [show scanL l = some (lineC 1 0 0 z5) by unfold scanL; rw [if_pos e0]]
    rfl
  · rw [h6]
    have e0 := of_decide_eq_false h6
    refine s_assign rfl rfl rfl rfl ?_
    refine vOrd_nil ?_
    refine Wp.condF rfl rfl ?_
    refine Wp.seq ?_
    refine Wp.region [0, 1, 2] (by kernel_rfl) (by kernel_rfl) ?_
    refine s_move rfl rfl rfl rfl ?_
    refine s_callT rfl rfl rfl (by kernel_rfl) rfl (prefix_any l [35, 36] _) ?_
    rintro v w4 rfl lw4
    rcases Bool.eq_false_or_eq_true (decide (l.take ([35, 36] : List UInt8).length = [35, 36])) with h10 | h10
    · rw [h10]
      have e1 : l.take 2 = [35, 36] := of_decide_eq_true h10
      have z1 := two_len e1
      refine s_assign rfl rfl rfl rfl ?_
      refine vOrd_nil ?_
      refine Wp.condT rfl rfl ?_
      refine Wp.seq ?_
      refine Wp.region [0, 1, 2, 3, 4, 5, 6] (by kernel_rfl) (by kernel_rfl) ?_
      refine s_move rfl rfl rfl rfl ?_
      refine b_from rfl rfl rfl rfl rfl rfl (by omega) (by omega) ?_
      refine s_callT rfl rfl rfl (by kernel_rfl) rfl (stamp_any 2 (l.drop 2) (by rw [List.length_drop]; omega) _) ?_
      rintro v w5 rfl lw5
      obtain ⟨x0, x1, x2, y0, y1, y2, y3, y4, hX⟩ := stamp_line 2 (l.drop 2)
      rw [hX]
      refine s_extract rfl rfl rfl rfl rfl ?_
      refine s_extract rfl rfl rfl rfl rfl ?_
      refine s_store rfl rfl rfl rfl rfl rfl rfl (fun w6 sw6 vw6 => ?_)
      refine s_assign rfl rfl rfl rfl ?_
      refine vOrd_nil ?_
      refine Wp.ret ⟨.inr rfl, fun lW => ⟨_, ⟨_, _, res_cell rfl rfl rfl rfl, res_tmp (P := Tryd.prog) rfl rfl, rfl⟩, _, rfl, ?_, lW⟩⟩
      clear lW
      rw [show scanL l = stampL 2 (l.drop 2) by unfold scanL; rw [if_neg e0, if_pos e1], hX]
      rfl
    · rw [h10]
      have e1 : ¬ l.take 2 = [35, 36] := of_decide_eq_false h10
      refine s_assign rfl rfl rfl rfl ?_
      refine vOrd_nil ?_
      refine Wp.condF rfl rfl ?_
      refine Wp.seq ?_
      refine Wp.region [0, 1, 2] (by kernel_rfl) (by kernel_rfl) ?_
      refine s_move rfl rfl rfl rfl ?_
      refine s_callT rfl rfl rfl (by kernel_rfl) rfl (prefix_any l [35, 64] _) ?_
      rintro v w7 rfl lw7
      rcases Bool.eq_false_or_eq_true (decide (l.take ([35, 64] : List UInt8).length = [35, 64])) with h18 | h18
      · rw [h18]
        have e2 : l.take 2 = [35, 64] := of_decide_eq_true h18
        have z1 := two_len e2
        refine s_assign rfl rfl rfl rfl ?_
        refine vOrd_nil ?_
        refine Wp.condT rfl rfl ?_
        refine Wp.seq ?_
        refine Wp.region [0, 1, 2, 3, 4, 5, 6] (by kernel_rfl) (by kernel_rfl) ?_
        refine s_move rfl rfl rfl rfl ?_
        refine b_from rfl rfl rfl rfl rfl rfl (by omega) (by omega) ?_
        refine s_callT rfl rfl rfl (by kernel_rfl) rfl (stamp_any 3 (l.drop 2) (by rw [List.length_drop]; omega) _) ?_
        rintro v w8 rfl lw8
        obtain ⟨x0, x1, x2, y0, y1, y2, y3, y4, hX⟩ := stamp_line 3 (l.drop 2)
        rw [hX]
        refine s_extract rfl rfl rfl rfl rfl ?_
        refine s_extract rfl rfl rfl rfl rfl ?_
        refine s_store rfl rfl rfl rfl rfl rfl rfl (fun w9 sw9 vw9 => ?_)
        refine s_assign rfl rfl rfl rfl ?_
        refine vOrd_nil ?_
        refine Wp.ret ⟨.inr rfl, fun lW => ⟨_, ⟨_, _, res_cell rfl rfl rfl rfl, res_tmp (P := Tryd.prog) rfl rfl, rfl⟩, _, rfl, ?_, lW⟩⟩
        clear lW
        rw [show scanL l = stampL 3 (l.drop 2) by unfold scanL; rw [if_neg e0, if_neg e1, if_pos e2], hX]
        rfl
      · rw [h18]
        have e2 : ¬ l.take 2 = [35, 64] := of_decide_eq_false h18
        refine s_assign rfl rfl rfl rfl ?_
        refine vOrd_nil ?_
        refine Wp.condF rfl rfl ?_
        refine Wp.seq ?_
        refine Wp.region [0, 1, 2] (by kernel_rfl) (by kernel_rfl) ?_
        refine s_move rfl rfl rfl rfl ?_
        refine s_callT rfl rfl rfl (by kernel_rfl) rfl (prefix_any l [35, 104] _) ?_
        rintro v w10 rfl lw10
        rcases Bool.eq_false_or_eq_true (decide (l.take ([35, 104] : List UInt8).length = [35, 104])) with h26 | h26
        · rw [h26]
          have e3 : l.take 2 = [35, 104] := of_decide_eq_true h26
          have z1 := two_len e3
          refine s_assign rfl rfl rfl rfl ?_
          refine vOrd_nil ?_
          refine Wp.condT rfl rfl ?_
          refine Wp.seq ?_
          refine Wp.region [0, 1, 2, 3, 4, 5, 6] (by kernel_rfl) (by kernel_rfl) ?_
          refine s_move rfl rfl rfl rfl ?_
          refine b_from rfl rfl rfl rfl rfl rfl (by omega) (by omega) ?_
          refine s_callT rfl rfl rfl (by kernel_rfl) rfl (hash_any (l.drop 2) (by rw [List.length_drop]; omega) _) ?_
          rintro v w11 rfl lw11
          obtain ⟨x0, x1, x2, y0, y1, y2, y3, y4, hX⟩ := hash_line (l.drop 2)
          rw [hX]
          refine s_extract rfl rfl rfl rfl rfl ?_
          refine s_extract rfl rfl rfl rfl rfl ?_
          refine s_store rfl rfl rfl rfl rfl rfl rfl (fun w12 sw12 vw12 => ?_)
          refine s_assign rfl rfl rfl rfl ?_
          refine vOrd_nil ?_
          refine Wp.ret ⟨.inr rfl, fun lW => ⟨_, ⟨_, _, res_cell rfl rfl rfl rfl, res_tmp (P := Tryd.prog) rfl rfl, rfl⟩, _, rfl, ?_, lW⟩⟩
          clear lW
          rw [show scanL l = hashL (l.drop 2) by unfold scanL; rw [if_neg e0, if_neg e1, if_neg e2, if_pos e3], hX]
          rfl
        · rw [h26]
          have e3 : ¬ l.take 2 = [35, 104] := of_decide_eq_false h26
          refine s_assign rfl rfl rfl rfl ?_
          refine vOrd_nil ?_
          refine Wp.condF rfl rfl ?_
          refine Wp.seq ?_
          refine Wp.region [0, 1, 2] (by kernel_rfl) (by kernel_rfl) ?_
          refine s_move rfl rfl rfl rfl ?_
          refine s_callT rfl rfl rfl (by kernel_rfl) rfl (prefix_any l [35] _) ?_
          rintro v w13 rfl lw13
          rcases Bool.eq_false_or_eq_true (decide (l.take ([35] : List UInt8).length = [35])) with h34 | h34
          · rw [h34]
            have e4 : l.take 1 = [35] := of_decide_eq_true h34
            refine s_assign rfl rfl rfl rfl ?_
            refine vOrd_nil ?_
            refine Wp.condT rfl rfl ?_
            refine Wp.seq ?_
            refine Wp.region [0, 1, 2] (by kernel_rfl) (by kernel_rfl) ?_
            refine s_build rfl rfl rfl rfl rfl (by kernel_rfl) ?_
            refine s_store rfl rfl rfl rfl rfl rfl rfl (fun w14 sw14 vw14 => ?_)
            refine s_assign rfl rfl rfl rfl ?_
            refine vOrd_nil ?_
            refine Wp.ret ⟨.inr rfl, fun lW => ⟨_, ⟨_, _, res_cell rfl rfl rfl rfl, res_tmp (P := Tryd.prog) rfl rfl, rfl⟩, _, rfl, ?_, lW⟩⟩
            clear lW
            rw [show scanL l = some (lineC 1 0 0 z5) by unfold scanL; rw [if_neg e0, if_neg e1, if_neg e2, if_neg e3, if_pos e4]]
            rfl
          · rw [h34]
            have e4 : ¬ l.take 1 = [35] := of_decide_eq_false h34
            refine s_assign rfl rfl rfl rfl ?_
            refine vOrd_nil ?_
            refine Wp.condF rfl rfl ?_
            refine Wp.skip ?_
            refine Wp.seq ?_
            refine Wp.region [0, 1, 2, 3, 4, 5] (by kernel_rfl) (by kernel_rfl) ?_
            refine s_move rfl rfl rfl rfl ?_
            refine s_callT rfl rfl rfl (by kernel_rfl) rfl (data_any l hl _) ?_
            rintro v w15 rfl lw15
            obtain ⟨x0, x1, x2, y0, y1, y2, y3, y4, hX⟩ := data_line l
            rw [hX]
            refine s_extract rfl rfl rfl rfl rfl ?_
            refine s_extract rfl rfl rfl rfl rfl ?_
            refine s_store rfl rfl rfl rfl rfl rfl rfl (fun w16 sw16 vw16 => ?_)
            refine s_assign rfl rfl rfl rfl ?_
            refine vOrd_nil ?_
            refine Wp.ret ⟨.inr rfl, fun lW => ⟨_, ⟨_, _, res_cell rfl rfl rfl rfl, res_tmp (P := Tryd.prog) rfl rfl, rfl⟩, _, rfl, ?_, lW⟩⟩
            clear lW
            rw [show scanL l = dataL l by unfold scanL; rw [if_neg e0, if_neg e1, if_neg e2, if_neg e3, if_neg e4], hX]
            rfl
end Go.Proofs.YthjgilocbfhffaaDoor
