/-
  The walk of the law ShaOwn (R4): the bytes that are summed stay as they are, and what stands behind them in memory, too. Conditions: the bytes that are handed in are at most 140,737,488,351,232.
-/
import Derived.Test.YtmaicamlemnbmaaShaB
namespace Go.Proofs.Ytmaicamlemnbmaa
open Go.RowKit
set_option maxRecDepth 100000

theorem run_eql_sum (s : Five) (w : World) : (binOp .eql 26 (sumV s) (sumV s)).run Try.prog w = .ok (.bool true) w := by
  have h := run_eql_ints (P := Try.prog) (t := 26) (e := 5) (len := 20) (d := 9998) (k := .u8) (xs := (sumC s).toArray) rfl rfl rfl rfl (fun i hi => ⟨bt s i, by
    have := read_sum (P := Try.prog) (t := 5) s hi rfl rfl
    rw [read_one rfl] at this
    simpa using this⟩) w
  have e : sumV s = .agg (sumC s).toArray := rfl
  rw [e]
  show (do pure (.bool (← Op.equal 26 (.agg (sumC s).toArray) (.agg (sumC s).toArray))) : Sem Value).run Try.prog w = _
  simp only [Op.equal, Op.maxDepth, Sem.run_bind]
  rw [h]
  rfl
theorem own_cap {w : World} {base : Nat} {e : TypeId} {a : Option Addr} {n c : Nat} {xs : List Value} (h : w.ownsRow base e 1 (.slice a n c) n xs) : n ≤ c := by
  rcases h.2 with ⟨h1, h2⟩ | ⟨g, cap, cur, h1, h2, h3, h4, _⟩
  · omega
  · simp only [Value.slice.injEq] at h1; omega
theorem take_tail {cs T : List Value} {l : List UInt8} (h : cs.take (l.length + T.length) = bytesV l ++ T) {j : Nat} {v : Value} (hj : T[j]? = some v) : cs[l.length + j]? = some v := by
  have hl := (List.getElem?_eq_some_iff.1 hj).1
  have e : (cs.take (l.length + T.length))[l.length + j]? = (bytesV l ++ T)[l.length + j]? := by rw [h]
  rw [List.getElem?_take_of_lt (by omega), List.getElem?_append_right (by rw [bytesV_len]; omega), bytesV_len, Nat.add_sub_cancel_left, hj] at e
  exact e
theorem take_front {cs T : List Value} {l : List UInt8} {n : Nat} (h : cs.take n = bytesV l ++ T) (hn : l.length ≤ n) : cs.take l.length = bytesV l := by
  have e : (cs.take n).take l.length = (bytesV l ++ T).take l.length := by rw [h]
  rw [List.take_take, Nat.min_eq_left hn] at e
  rw [e, List.take_append_of_le_length (by rw [bytesV_len]; exact Nat.le_refl _), List.take_of_length_le (by rw [bytesV_len]; exact Nat.le_refl _)]
theorem BytesAt.cells {w : World} {ua : Option Addr} {n uc : Nat} {l : List UInt8} (h : BytesAt w (.slice ua n uc) l) (hl : 0 < l.length) : ∃ b off, ua = some ⟨b, off, none⟩ ∧ ∀ j, j < l.length → w.cell? ⟨b, off + j, none⟩ = some (.int .u8 (byteF l j)) := by
  rcases h with ⟨b, off, c, h1, _, h2⟩ | ⟨h1, h2⟩
  · simp only [Value.slice.injEq] at h1
    refine ⟨b, off, h1.1, fun j hj => ?_⟩
    have e : l[j]? = some (l.getD j 0) := by simp [List.getD, hj]
    exact h2 j _ e
  · subst h2; simp at hl
theorem law_own {l : List UInt8} {u : Value} {w : World} (hu : BytesAt w u l) (hl : l.length ≤ 140737488351232) (mr : Int) : Calls Try.prog 5 #[u, .int .u8 mr] w fun e w' => ∃ r, e = .returned r ∧ r = .bool true ∧ Below w.heap.size w w' := by
  obtain ⟨ua, uc, rfl⟩ := hu.slice
  obtain ⟨s, hs⟩ : ∃ s, shaF l = s := ⟨_, rfl⟩
  have hsum : ∀ {v : Value} {w : World}, BytesAt w v l → Calls Try.prog 8 #[v] w fun e w' => ∃ r, e = .returned r ∧ r = sumV s ∧ Below w.heap.size w w' := fun h => hs ▸ ssum_any h hl
  refine calls_Wp (args := [_, _]) (n := 59) Try.func5 rfl rfl (by simp) ?_
  refine Wp.seq ?_
  refine Wp.region [0] (by kernel_rfl) (by kernel_rfl) ?_
  refine s_assign rfl rfl rfl rfl ?_
  refine vOrd_nil ?_
  refine Wp.seq ?_
  refine Wp.region [0, 1, 2, 3, 4, 5, 6] (by kernel_rfl) (by kernel_rfl) ?_
  refine s_bs (e := 5) (cs := []) rfl rfl rfl (fun _ => by kernel_rfl) ?_
  intro c0 w2 hc0 l2 hrow0
  have hown0 : w2.ownsRow w.heap.size 5 1 (.slice (some ⟨c0, 0, none⟩) 0 0) 0 [] := own_of_row hrow0 (by omega) rfl (by decide)
  have z2 := l2.size
  refine s_move rfl rfl rfl rfl ?_
  refine x_appendB (base := w.heap.size) (n := 0) (xs := []) (l := l) rfl rfl rfl rfl rfl rfl rfl rfl rfl rfl rfl hown0 (hu.later l2) (by omega) (by omega) (by omega) (by repeat (first | exact AllMem.args | exact AllMem.of (by simp only [AllL, and_true]; omega) | refine AllMem.put ?_ | refine AllMem.new ?_ (by omega) | refine AllMem.set ?_ (by omega))) ?_
  intro v3 w3 hown3 hg3
  have z3 := hg3.size
  simp only [Nat.zero_add, List.nil_append] at hown3
  refine s_move rfl rfl rfl rfl ?_
  refine s_bs (e := 5) (cs := [.int .u8 mr, .int .u8 7, .int .u8 7, .int .u8 7, .int .u8 7, .int .u8 7, .int .u8 7, .int .u8 7, .int .u8 7, .int .u8 7]) rfl rfl rfl (fun _ => by kernel_rfl) ?_
  intro c1 w4 hc1 l4 hrow1
  have z4 := l4.size
  refine x_append (base := w.heap.size) (sz := 1) (bs := 1) (n := l.length) (xs := bytesV l) rfl rfl rfl rfl rfl rfl rfl rfl rfl rfl rfl (by decide) (own_later hown3 l4) hrow1 rfl rfl (by omega) (by omega) (by omega) (by omega) (own_apart (own_later hown3 l4) (by repeat (first | exact AllMem.args | exact AllMem.of (by simp only [AllL, and_true]; omega) | refine AllMem.put ?_ | refine AllMem.new ?_ (by omega) | refine AllMem.set ?_ (by omega)))) ?_
  intro v5 w5 hown5 hg5
  obtain ⟨g, cap, cs, rfl, hgb, vg, ht⟩ := own_row hown5 (by omega)
  have hcap := own_cap hown5
  have ht2 := take_front ht (by omega)
  refine s_assign rfl rfl rfl rfl ?_
  refine vOrd_nil ?_
  refine Wp.seq ?_
  refine Wp.adopt 1005 vg (by omega) rfl (show AllMem (fun d => d ≠ g) _ from (by repeat (first | exact AllMem.args | exact AllMem.of (by simp only [AllL, and_true]; omega) | refine AllMem.put ?_ | refine AllMem.new ?_ (by omega) | refine AllMem.set ?_ (by omega)))) ?_
  refine Wp.region [0, 1, 2, 3, 4, 5, 6] (by kernel_rfl) (by kernel_rfl) ?_
  refine s_move rfl rfl rfl rfl ?_
  refine s_move rfl rfl rfl rfl ?_
  refine x_len rfl rfl rfl rfl rfl ?_
  refine x_to (sz := 1) rfl rfl rfl rfl rfl rfl rfl (by omega) (by omega) ?_
  rw [Int.toNat_natCast]
  refine s_callT rfl rfl rfl (by kernel_rfl) rfl (hsum (row_bytes vg (by omega) ht2)) ?_
  rintro v w19 rfl lw19
  refine s_alloc rfl rfl rfl rfl rfl (fun b6 w6 kb6 lw6 => ?_)
  refine s_store rfl rfl rfl rfl rfl rfl rfl (fun w21 sw21 vw21 => ?_)
  refine vOrd_nil ?_
  refine Wp.seq ?_
  refine Wp.seq ?_
  refine Wp.region [0] (by kernel_rfl) (by kernel_rfl) ?_
  refine s_assign rfl rfl rfl rfl ?_
  refine vOrd_nil ?_
  refine Wp.block ?_
  refine Wp.loop (fun k st W => ∃ (i : Nat) (ii : Int), st = St.of [(0, .v (.slice ua l.length uc)), (1, .v (.int .u8 mr)), (5, .v (.slice (some ⟨g, 0, none⟩) (l.length + 10) cap)), (6, .p 6 b6 0), (7, .v (.int .i64 ii))] [(6, b6, sumC s), (1005, g, cs)] ∧ ii = i ∧ i ≤ l.length ∧ k = l.length - i) ?_ ?_
  · exact ⟨_, _, (St.of_le' (env := [(0, .v _), (1, .v _), (5, .v _), (6, .p 6 _ 0), (7, .v _)]) (mem := [(6, _, _), (1005, _, _)]) ⟨rfl, rfl, rfl, rfl, rfl, trivial⟩ ⟨rfl, rfl, trivial⟩), 0, _, rfl, rfl, by omega, rfl⟩
  · rintro k st w22 ⟨i, ii, rfl, hii, hi1, rfl⟩
    refine Wp.seq ?_
    refine Wp.seq ?_
    refine Wp.region [0, 1, 2, 3] (by kernel_rfl) (by kernel_rfl) ?_
    refine s_move rfl rfl rfl rfl ?_
    refine s_move rfl rfl rfl rfl ?_
    refine x_len rfl rfl rfl rfl rfl ?_
    refine p_lss rfl rfl rfl rfl rfl (fun h22 => ?_) (fun h22 => ?_)
    · refine vOrd_nil ?_
      refine Wp.condT rfl rfl ?_
      refine Wp.skip ?_
      refine Wp.seq ?_
      refine Wp.block ?_
      refine Wp.seq ?_
      refine Wp.old (fun lo => ?_)
      obtain ⟨bb, off, rfl, hc⟩ := (hu.later lo).cells (by omega)
      have hcc := hc i (by omega)
      refine Wp.var (h := 1005) rfl (fun q5 => ?_)
      refine (Wp.drawn (by kernel_rfl) (by kernel_rfl) [0, 1, 2, 3, 4, 5, 6, 7, 8] [242, 241, 243, 247, 47, 0, 0, 0, 0] (by kernel_rfl) (by kernel_rfl) (fun _ _ _ => True) (fun _ _ => ?_))
      refine s_move rfl rfl rfl rfl ?_
      refine s_move rfl rfl rfl rfl ?_
      refine s_idx (sz := 1) (i) rfl rfl rfl rfl rfl rfl rfl (by omega) (by omega) (by omega) ?_
      refine s_ldU rfl rfl rfl rfl (by repeat (first | exact q5 | refine Var.later ?_ (by assumption))) (read_byte (j := i) ht2 rfl (by omega) rfl) ?_
      refine s_move rfl rfl rfl rfl ?_
      refine s_move rfl rfl rfl rfl ?_
      refine s_idx (sz := 1) (off + i) rfl rfl rfl rfl rfl rfl rfl (by omega) (by omega) (by omega) ?_
      refine x_ldc rfl rfl rfl rfl rfl (by first | exact hcc | exact cell_later (by assumption) hcc) ?_
      refine f_neq rfl rfl rfl rfl rfl (by omega) ?_
      refine vOrd_nil ?_
      refine Wp.condF rfl rfl ?_
      refine Wp.skip ?_
      refine Wp.region [0, 1, 2] (by kernel_rfl) (by kernel_rfl) ?_
      refine s_move rfl rfl rfl rfl ?_
      refine a_add (-9223372036854775808) 9223372036854775807 (by decide) rfl rfl rfl rfl rfl (by omega) (by omega) ?_
      refine s_assign rfl rfl rfl rfl ?_
      refine vOrd_nil ?_
      exact ⟨_, _, by omega, (St.of_le' (env := [(0, .v _), (1, .v _), (5, .v _), (6, .p 6 _ 0), (7, .v _)]) (mem := [(6, _, _), (1005, _, _)]) ⟨rfl, rfl, rfl, rfl, rfl, trivial⟩ ⟨rfl, rfl, trivial⟩), i + 1, _, rfl, by omega, by omega, rfl⟩
    · refine vOrd_nil ?_
      refine Wp.condF rfl rfl ?_
      refine Wp.exit ?_
      refine Wp.seq ?_
      refine Wp.old (fun lo => ?_)
      have hu2 := hu.later lo
      refine Wp.var (h := 1005) rfl (fun q5 => ?_)
      have t0 := take_tail (T := [.int .u8 mr, .int .u8 7, .int .u8 7, .int .u8 7, .int .u8 7, .int .u8 7, .int .u8 7, .int .u8 7, .int .u8 7, .int .u8 7]) ht (j := 0) rfl
      have t9 := take_tail (T := [.int .u8 mr, .int .u8 7, .int .u8 7, .int .u8 7, .int .u8 7, .int .u8 7, .int .u8 7, .int .u8 7, .int .u8 7, .int .u8 7]) ht (j := 9) rfl
      refine (Wp.drawn (by kernel_rfl) (by kernel_rfl) [0, 1, 2, 3, 4, 5, 6, 7, 8, 9, 13, 10, 11, 12, 14, 15, 16, 17, 18, 19, 20, 21, 22, 23, 24, 25] [0, 0, 27, 0, 0, 0, 0, 0, 9983, 8703, 8191, 0, 0, 0, 0, 0, 0, 1966079, 0, 0, 0, 0, 0, 0, 0, 0] (by kernel_rfl) (by kernel_rfl) (fun | 0 => fun v _ => v = .bool true | 4 => fun v _ => v = sumV s | 10 => fun v _ => v = .int .i64 (l.length : Int) | 19 => fun v _ => v = .int .i64 (l.length : Int) | _ => fun _ _ => True) (fun _ _ => ?_))
      refine s_callD rfl rfl rfl (by kernel_rfl) rfl (fun wc lc => sanswers_any wc) ?_
      rintro v w26 u26 rfl lw26 mw26
      refine s_move rfl rfl rfl rfl ?_
      refine s_load rfl rfl rfl rfl rfl rfl rfl ?_
      refine s_move rfl rfl rfl rfl ?_
      refine s_callD rfl rfl rfl (by kernel_rfl) rfl (fun wc lc => hsum (by repeat (first | exact hu2 | refine BytesAt.later ?_ (by assumption)))) ?_
      rintro v w27 u27 rfl lw27 mw27
      refine s_eqv (c := true) rfl rfl rfl rfl rfl (fun _ => by kernel_rfl) (fun w => run_eql_sum s w) ?_
      refine s_pick rfl rfl rfl rfl rfl ?_
      refine s_move rfl rfl rfl rfl ?_
      refine s_move rfl rfl rfl rfl ?_
      refine s_move rfl rfl rfl rfl ?_
      refine s_move rfl rfl rfl rfl ?_
      refine x_lenD rfl rfl rfl rfl rfl (fun _ => rfl) (fun _ _ h => h) (fun w29 lw29 => ?_)
      refine s_idx (sz := 1) (l.length) rfl rfl rfl rfl rfl rfl rfl (by omega) (by omega) (by omega) ?_
      refine s_ldU rfl rfl rfl rfl (by repeat (first | exact q5 | refine Var.later ?_ (by assumption))) ((read_one rfl).trans t0) ?_
      refine t_eql rfl rfl rfl rfl rfl (by omega) ?_
      refine s_pick rfl rfl rfl rfl rfl ?_
      refine s_move rfl rfl rfl rfl ?_
      refine s_move rfl rfl rfl rfl ?_
      refine s_move rfl rfl rfl rfl ?_
      refine x_lenD rfl rfl rfl rfl rfl (fun _ => rfl) (fun _ _ h => h) (fun w31 lw31 => ?_)
      refine a_add (-9223372036854775808) 9223372036854775807 (by decide) rfl rfl rfl rfl rfl (by omega) (by omega) ?_
      refine s_idx (sz := 1) (l.length + 9) rfl rfl rfl rfl rfl rfl rfl (by omega) (by omega) (by omega) ?_
      refine s_ldU rfl rfl rfl rfl (by repeat (first | exact q5 | refine Var.later ?_ (by assumption))) ((read_one rfl).trans t9) ?_
      refine t_eql rfl rfl rfl rfl rfl (by omega) ?_
      refine s_pick rfl rfl rfl rfl rfl ?_
      refine s_assign rfl rfl rfl rfl ?_
      refine vOrd_nil ?_
      refine Wp.ret ⟨.inr rfl, fun lW => ⟨_, res_tmp (P := Try.prog) rfl rfl, _, rfl, ?_, lW⟩⟩
      clear lW
      rfl
end Go.Proofs.Ytmaicamlemnbmaa
