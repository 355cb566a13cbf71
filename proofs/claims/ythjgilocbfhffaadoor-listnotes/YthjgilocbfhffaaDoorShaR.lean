/-
  The contracts of the document's own answer for layer 9: turn, and Words (of any bytes that are handed in). Conditions: the bytes are at most 140,737,488,351,232.
-/
import Derived.Test.YthjgilocbfhffaaDoorRows
import Derived.Test.YthjgilocbfhffaaDoorShaA
namespace Go.Proofs.YthjgilocbfhffaaDoor
open Go.RowKit
set_option maxRecDepth 100000

theorem own_apart {w : World} {base : Nat} {e : TypeId} {sz : Nat} {v : Value} {n : Nat} {xs : List Value} {st : St} (h : w.ownsRow base e sz v n xs) (ha : AllMem (· < base) st) : ∀ q b cs, st.mem q = some (b, cs) → v.ownBlock ≠ some b := fun q b cs e hq => by
  have h1 := ha q b cs e
  have h2 := (h.lt b hq).1
  omega
theorem lenB_is (n j : Nat) : [Value.int .u8 (IntKind.u8.wrap ((n : Int) * 8 / 2 ^ (8 * (7 - j))))] = bytesV [lenB n j] := by
  unfold bytesV lenB
  simp only [List.map_cons, List.map_nil, List.cons.injEq, Value.int.injEq, true_and, and_true]
  rw [IntKind.wrap_u8', UInt8.toNat_ofNat']
  have e : ((2 ^ (8 * (7 - j)) : Nat) : Int) = (2 : Int) ^ (8 * (7 - j)) := by simp
  rw [← e, show ((n : Int) * 8) = ((n * 8 : Nat) : Int) by omega, ← Int.natCast_ediv]
  omega
theorem turn1_any {n : Int} (h : inW32 n) (w : World) : Calls Tryd.prog 42 #[.int .i64 n, .int .i64 1] w fun e w' => ∃ r, e = .returned r ∧ r = .int .i64 (rot 2 2147483648 n) ∧ Below w.heap.size w w' := by
  unfold inW32 at h
  refine calls_Wp (args := [_, _]) (n := 16) Tryd.func42 rfl rfl (by simp) ?_
  refine Wp.seq ?_
  refine Wp.region [0] (by kernel_rfl) (by kernel_rfl) ?_
  refine s_assign rfl rfl rfl rfl ?_
  refine vOrd_nil ?_
  refine Wp.seq ?_
  refine Wp.region [0, 1, 2, 3, 4, 5, 6, 7, 8, 9, 10, 11] (by kernel_rfl) (by kernel_rfl) ?_
  refine s_move rfl rfl rfl rfl ?_
  refine s_move rfl rfl rfl rfl ?_
  refine a_conv (0) 18446744073709551615 (by decide) rfl rfl rfl rfl rfl rfl (by omega) (by omega) ?_
  refine a_shl (2) (-9223372036854775808) 9223372036854775807 (by decide) rfl rfl rfl rfl rfl (by omega) (by decide) (by omega) (by omega) ?_
  refine a_rem rfl rfl rfl rfl rfl (by omega) (by omega) ?_
  refine s_move rfl rfl rfl rfl ?_
  refine s_move rfl rfl rfl rfl ?_
  refine a_sub (-9223372036854775808) 9223372036854775807 (by decide) rfl rfl rfl rfl rfl (by omega) (by omega) ?_
  refine a_conv (0) 18446744073709551615 (by decide) rfl rfl rfl rfl rfl rfl (by omega) (by omega) ?_
  refine a_shr (2147483648) rfl rfl rfl rfl rfl (by omega) (by decide) ?_
  refine a_add (-9223372036854775808) 9223372036854775807 (by decide) rfl rfl rfl rfl rfl (by omega) (by omega) ?_
  refine s_assign rfl rfl rfl rfl ?_
  refine vOrd_nil ?_
  refine Wp.ret ⟨.inr rfl, fun lW => ⟨_, res_tmp (P := Tryd.prog) rfl rfl, _, rfl, ?_, lW⟩⟩
  clear lW
  rfl
theorem turn5_any {n : Int} (h : inW32 n) (w : World) : Calls Tryd.prog 42 #[.int .i64 n, .int .i64 5] w fun e w' => ∃ r, e = .returned r ∧ r = .int .i64 (rot 32 134217728 n) ∧ Below w.heap.size w w' := by
  unfold inW32 at h
  refine calls_Wp (args := [_, _]) (n := 16) Tryd.func42 rfl rfl (by simp) ?_
  refine Wp.seq ?_
  refine Wp.region [0] (by kernel_rfl) (by kernel_rfl) ?_
  refine s_assign rfl rfl rfl rfl ?_
  refine vOrd_nil ?_
  refine Wp.seq ?_
  refine Wp.region [0, 1, 2, 3, 4, 5, 6, 7, 8, 9, 10, 11] (by kernel_rfl) (by kernel_rfl) ?_
  refine s_move rfl rfl rfl rfl ?_
  refine s_move rfl rfl rfl rfl ?_
  refine a_conv (0) 18446744073709551615 (by decide) rfl rfl rfl rfl rfl rfl (by omega) (by omega) ?_
  refine a_shl (32) (-9223372036854775808) 9223372036854775807 (by decide) rfl rfl rfl rfl rfl (by omega) (by decide) (by omega) (by omega) ?_
  refine a_rem rfl rfl rfl rfl rfl (by omega) (by omega) ?_
  refine s_move rfl rfl rfl rfl ?_
  refine s_move rfl rfl rfl rfl ?_
  refine a_sub (-9223372036854775808) 9223372036854775807 (by decide) rfl rfl rfl rfl rfl (by omega) (by omega) ?_
  refine a_conv (0) 18446744073709551615 (by decide) rfl rfl rfl rfl rfl rfl (by omega) (by omega) ?_
  refine a_shr (134217728) rfl rfl rfl rfl rfl (by omega) (by decide) ?_
  refine a_add (-9223372036854775808) 9223372036854775807 (by decide) rfl rfl rfl rfl rfl (by omega) (by omega) ?_
  refine s_assign rfl rfl rfl rfl ?_
  refine vOrd_nil ?_
  refine Wp.ret ⟨.inr rfl, fun lW => ⟨_, res_tmp (P := Tryd.prog) rfl rfl, _, rfl, ?_, lW⟩⟩
  clear lW
  rfl
theorem turn30_any {n : Int} (h : inW32 n) (w : World) : Calls Tryd.prog 42 #[.int .i64 n, .int .i64 30] w fun e w' => ∃ r, e = .returned r ∧ r = .int .i64 (rot 1073741824 4 n) ∧ Below w.heap.size w w' := by
  unfold inW32 at h
  refine calls_Wp (args := [_, _]) (n := 16) Tryd.func42 rfl rfl (by simp) ?_
  refine Wp.seq ?_
  refine Wp.region [0] (by kernel_rfl) (by kernel_rfl) ?_
  refine s_assign rfl rfl rfl rfl ?_
  refine vOrd_nil ?_
  refine Wp.seq ?_
  refine Wp.region [0, 1, 2, 3, 4, 5, 6, 7, 8, 9, 10, 11] (by kernel_rfl) (by kernel_rfl) ?_
  refine s_move rfl rfl rfl rfl ?_
  refine s_move rfl rfl rfl rfl ?_
  refine a_conv (0) 18446744073709551615 (by decide) rfl rfl rfl rfl rfl rfl (by omega) (by omega) ?_
  refine a_shl (1073741824) (-9223372036854775808) 9223372036854775807 (by decide) rfl rfl rfl rfl rfl (by omega) (by decide) (by omega) (by omega) ?_
  refine a_rem rfl rfl rfl rfl rfl (by omega) (by omega) ?_
  refine s_move rfl rfl rfl rfl ?_
  refine s_move rfl rfl rfl rfl ?_
  refine a_sub (-9223372036854775808) 9223372036854775807 (by decide) rfl rfl rfl rfl rfl (by omega) (by omega) ?_
  refine a_conv (0) 18446744073709551615 (by decide) rfl rfl rfl rfl rfl rfl (by omega) (by omega) ?_
  refine a_shr (4) rfl rfl rfl rfl rfl (by omega) (by decide) ?_
  refine a_add (-9223372036854775808) 9223372036854775807 (by decide) rfl rfl rfl rfl rfl (by omega) (by omega) ?_
  refine s_assign rfl rfl rfl rfl ?_
  refine vOrd_nil ?_
  refine Wp.ret ⟨.inr rfl, fun lW => ⟨_, res_tmp (P := Tryd.prog) rfl rfl, _, rfl, ?_, lW⟩⟩
  clear lW
  rfl
set_option maxHeartbeats 4000000 in
theorem rwords_any {l : List UInt8} {u : Value} {w : World} (hu : BytesAt w u l) (hl : l.length ≤ 140737488351232) : Calls Tryd.prog 31 #[u] w fun e w' => ∃ r, e = .returned r ∧ r = fiveV (shaF l) ∧ Below w.heap.size w w' := by
  obtain ⟨ua, uc, rfl⟩ := hu.slice
  have pk := padK_is l.length
  refine calls_Wp (args := [_]) (n := 205) Tryd.func31 rfl rfl (by simp) ?_
  refine Wp.seq ?_
  refine Wp.region [0] (by kernel_rfl) (by kernel_rfl) ?_
  refine s_alloc rfl rfl rfl rfl rfl (fun bk1 w1 kb1 lw1 => ?_)
  refine vOrd_nil ?_
  refine Wp.seq ?_
  refine Wp.var (h := 2) rfl (fun v2 => ?_)
  have k2 := v2.lt
  refine Wp.region [0, 1, 2, 3] (by kernel_rfl) (by kernel_rfl) ?_
  refine s_bs (e := 5) (cs := []) rfl rfl rfl (fun _ => by kernel_rfl) ?_
  intro c0 w2 hc0 l2 hrow0
  have hown0 : w2.ownsRow (bk1 + 1) 5 1 (.slice (some ⟨c0, 0, none⟩) 0 0) 0 [] := own_of_row hrow0 (by omega) rfl (by decide)
  have z2 := l2.size
  refine s_move rfl rfl rfl rfl ?_
  refine x_appendB (base := bk1 + 1) (n := 0) (xs := []) (l := l) rfl rfl rfl rfl rfl rfl rfl rfl rfl rfl rfl hown0 ((hu.later lw1).later l2) (by omega) (by omega) (by omega) (by repeat (first | exact AllMem.args | exact AllMem.of (by simp only [AllL, and_true]; omega) | refine AllMem.put ?_ | refine AllMem.new ?_ (by omega) | refine AllMem.set ?_ (by omega))) ?_
  intro v3 w3 hown3 hg3
  have z3 := hg3.size
  simp only [Nat.zero_add, List.nil_append] at hown3
  obtain ⟨a3, c3, rfl⟩ := own_slice hown3
  refine s_assign rfl rfl rfl rfl ?_
  refine vOrd_nil ?_
  refine Wp.seq ?_
  refine Wp.region [0, 1, 2, 3] (by kernel_rfl) (by kernel_rfl) ?_
  refine s_move rfl rfl rfl rfl ?_
  refine s_bs (e := 5) (cs := [.int .u8 128]) rfl rfl rfl (fun _ => by kernel_rfl) ?_
  intro c1 w4 hc1 l4 hrow1
  have z4 := l4.size
  refine x_append (base := bk1 + 1) (sz := 1) (bs := 1) (n := l.length) (xs := bytesV l) rfl rfl rfl rfl rfl rfl rfl rfl rfl rfl rfl (by decide) (own_later hown3 l4) hrow1 rfl rfl (by omega) (by omega) (by omega) (by omega) (own_apart (own_later hown3 l4) (by repeat (first | exact AllMem.args | exact AllMem.of (by simp only [AllL, and_true]; omega) | refine AllMem.put ?_ | refine AllMem.new ?_ (by omega) | refine AllMem.set ?_ (by omega)))) ?_
  intro v5 w5 hown5 hg5
  have z5 := hg5.size
  obtain ⟨a5, c5, rfl⟩ := own_slice hown5
  have hown6 : w5.ownsRow (bk1 + 1) 5 1 (.slice a5 (l.length + 1 + 0) c5) (l.length + 1 + 0) (bytesV (padZ l 0)) := by simpa [padZ, bytesV] using hown5
  refine s_assign rfl rfl rfl rfl ?_
  refine vOrd_nil ?_
  refine Wp.seq ?_
  refine Wp.block ?_
  refine Wp.loop (fun k st W => ∃ (z : Nat) (va : Option Addr) (vc : Nat), st = St.of [(0, .v (.slice ua l.length uc)), (2, .p 2 bk1 0), (3, .v (.slice va (l.length + 1 + z) vc))] [(2, bk1, [.int .i64 0, .int .i64 0, .int .i64 0, .int .i64 0, .int .i64 0])] ∧ W.ownsRow (bk1 + 1) 5 1 (.slice va (l.length + 1 + z) vc) (l.length + 1 + z) (bytesV (padZ l z)) ∧ bk1 + 1 ≤ W.heap.size ∧ z ≤ padK l.length ∧ k = padK l.length - z) ?_ ?_
  · exact ⟨_, _, (St.of_le' (env := [(0, .v _), (2, .p 2 _ 0), (3, .v _)]) (mem := [(2, _, [_, _, _, _, _])]) ⟨rfl, rfl, rfl, trivial⟩ ⟨rfl, trivial⟩), 0, _, _, rfl, hown6, by omega, by omega, rfl⟩
  · rintro k st w19 ⟨z, va, vc, rfl, hz, sz, hz1, rfl⟩
    refine Wp.seq ?_
    refine Wp.seq ?_
    refine Wp.region [0, 1, 2, 3] (by kernel_rfl) (by kernel_rfl) ?_
    refine s_move rfl rfl rfl rfl ?_
    refine x_len rfl rfl rfl rfl rfl ?_
    refine a_rem rfl rfl rfl rfl rfl (by omega) (by omega) ?_
    refine p_neq rfl rfl rfl rfl rfl (fun h29 => ?_) (fun h29 => ?_)
    · have hz2 : z < padK l.length := by omega
      refine vOrd_nil ?_
      refine Wp.condT rfl rfl ?_
      refine Wp.skip ?_
      refine Wp.block ?_
      refine Wp.region [0, 1, 2, 3] (by kernel_rfl) (by kernel_rfl) ?_
      refine s_move rfl rfl rfl rfl ?_
      refine s_bs (e := 5) (cs := [.int .u8 0]) rfl rfl rfl (fun _ => by kernel_rfl) ?_
      intro cb wb hcb lb hrow
      have zb := lb.size
      refine x_append (base := bk1 + 1) (sz := 1) (bs := 1) (n := l.length + 1 + z) (xs := bytesV (padZ l z)) rfl rfl rfl rfl rfl rfl rfl rfl rfl rfl rfl (by decide) (own_later hz lb) hrow rfl rfl (by omega) (by omega) (by omega) (by omega) (own_apart (own_later hz lb) (by repeat (first | exact AllMem.args | exact AllMem.of (by simp only [AllL, and_true]; omega) | refine AllMem.put ?_ | refine AllMem.new ?_ (by omega) | refine AllMem.set ?_ (by omega)))) ?_
      intro vn wn hn0 gn
      have zn := gn.size
      obtain ⟨an, cn, rfl⟩ := own_slice hn0
      have hnx : wn.ownsRow (bk1 + 1) 5 1 (.slice an (l.length + 1 + (z + 1)) cn) (l.length + 1 + (z + 1)) (bytesV (padZ l (z + 1))) := by rw [← padZ_next, bytesV_app]; exact hn0
      refine s_assign rfl rfl rfl rfl ?_
      refine vOrd_nil ?_
      exact ⟨_, _, by omega, (St.of_le' (env := [(0, .v _), (2, .p 2 _ 0), (3, .v _)]) (mem := [(2, _, [_, _, _, _, _])]) ⟨rfl, rfl, rfl, trivial⟩ ⟨rfl, trivial⟩), z + 1, _, _, rfl, hnx, by omega, by omega, rfl⟩
    · have hz3 : z = padK l.length := by omega
      subst hz3
      refine vOrd_nil ?_
      refine Wp.condF rfl rfl ?_
      refine Wp.exit ?_
      refine Wp.seq ?_
      refine Wp.seq ?_
      refine Wp.region [0] (by kernel_rfl) (by kernel_rfl) ?_
      refine s_assign rfl rfl rfl rfl ?_
      refine vOrd_nil ?_
      refine Wp.block ?_
      refine Wp.loop (fun k st W => ∃ (j : Nat) (i : Int) (va : Option Addr) (vc : Nat), st = St.of [(0, .v (.slice ua l.length uc)), (2, .p 2 bk1 0), (3, .v (.slice va (l.length + 1 + padK l.length + j) vc)), (4, .v (.int .i64 i))] [(2, bk1, [.int .i64 0, .int .i64 0, .int .i64 0, .int .i64 0, .int .i64 0])] ∧ i = 7 - (j : Int) ∧ W.ownsRow (bk1 + 1) 5 1 (.slice va (l.length + 1 + padK l.length + j) vc) (l.length + 1 + padK l.length + j) (bytesV (padZ l (padK l.length) ++ lenL l.length j)) ∧ bk1 + 1 ≤ W.heap.size ∧ j ≤ 8 ∧ k = 8 - j) ?_ ?_
      · exact ⟨_, _, (St.of_le' (env := [(0, .v _), (2, .p 2 _ 0), (3, .v _), (4, .v _)]) (mem := [(2, _, [_, _, _, _, _])]) ⟨rfl, rfl, rfl, rfl, trivial⟩ ⟨rfl, trivial⟩), 0, _, _, _, rfl, rfl, by simpa [lenL] using hz, by omega, by omega, rfl⟩
      · rintro k st w28 ⟨j, i, va, vc, rfl, hi, hj, sz, hj1, rfl⟩
        refine Wp.seq ?_
        refine Wp.seq ?_
        refine Wp.region [0, 1] (by kernel_rfl) (by kernel_rfl) ?_
        refine s_move rfl rfl rfl rfl ?_
        refine p_geq rfl rfl rfl rfl rfl (fun h34 => ?_) (fun h34 => ?_)
        · refine vOrd_nil ?_
          refine Wp.condT rfl rfl ?_
          refine Wp.skip ?_
          refine Wp.seq ?_
          refine Wp.block ?_
          refine Wp.region [0, 1, 2, 3, 4, 5, 6, 7, 8, 9, 10, 11] (by kernel_rfl) (by kernel_rfl) ?_
          refine s_move rfl rfl rfl rfl ?_
          refine s_move rfl rfl rfl rfl ?_
          refine x_len rfl rfl rfl rfl rfl ?_
          refine a_mul (-9223372036854775808) 9223372036854775807 (by decide) rfl rfl rfl rfl rfl (by omega) (by omega) ?_
          refine s_move rfl rfl rfl rfl ?_
          refine a_mul (-9223372036854775808) 9223372036854775807 (by decide) rfl rfl rfl rfl rfl (by omega) (by omega) ?_
          refine a_conv (0) 18446744073709551615 (by decide) rfl rfl rfl rfl rfl rfl (by omega) (by omega) ?_
          refine a_shr (2 ^ (8 * (7 - j))) rfl rfl rfl rfl rfl (by omega) (by show (2 : Int) ^ min (8 * i).toNat 64 = 2 ^ (8 * (7 - j)); congr 1; omega) ?_
          refine a_wconv rfl rfl rfl rfl rfl rfl ?_
          refine s_bs (e := 5) (cs := [.int .u8 (IntKind.u8.wrap ((l.length : Int) * 8 / 2 ^ (8 * (7 - j))))]) rfl rfl rfl (fun _ => by kernel_rfl) ?_
          intro cb wb hcb lb hrow
          have zb := lb.size
          refine x_append (base := bk1 + 1) (sz := 1) (bs := 1) (n := l.length + 1 + padK l.length + j) (xs := bytesV (padZ l (padK l.length) ++ lenL l.length j)) rfl rfl rfl rfl rfl rfl rfl rfl rfl rfl rfl (by decide) (own_later hj lb) hrow rfl rfl (by omega) (by omega) (by omega) (by omega) (own_apart (own_later hj lb) (by repeat (first | exact AllMem.args | exact AllMem.of (by simp only [AllL, and_true]; omega) | refine AllMem.put ?_ | refine AllMem.new ?_ (by omega) | refine AllMem.set ?_ (by omega)))) ?_
          intro vn wn hn0 gn
          have zn := gn.size
          obtain ⟨an, cn, rfl⟩ := own_slice hn0
          have hnx : wn.ownsRow (bk1 + 1) 5 1 (.slice an (l.length + 1 + padK l.length + (j + 1)) cn) (l.length + 1 + padK l.length + (j + 1)) (bytesV (padZ l (padK l.length) ++ lenL l.length (j + 1))) := by rw [lenL, ← List.append_assoc, bytesV_app _ [lenB l.length j], ← lenB_is]; exact hn0
          refine s_assign rfl rfl rfl rfl ?_
          refine vOrd_nil ?_
          refine Wp.region [0, 1, 2] (by kernel_rfl) (by kernel_rfl) ?_
          refine s_move rfl rfl rfl rfl ?_
          refine a_sub (-9223372036854775808) 9223372036854775807 (by decide) rfl rfl rfl rfl rfl (by omega) (by omega) ?_
          refine s_assign rfl rfl rfl rfl ?_
          refine vOrd_nil ?_
          exact ⟨_, _, by omega, (St.of_le' (env := [(0, .v _), (2, .p 2 _ 0), (3, .v _), (4, .v _)]) (mem := [(2, _, [_, _, _, _, _])]) ⟨rfl, rfl, rfl, rfl, trivial⟩ ⟨rfl, trivial⟩), j + 1, _, _, _, rfl, by omega, hnx, by omega, by omega, rfl⟩
        · have hj8 : j = 8 := by omega
          subst hj8
          obtain ⟨g, cap, cs, e3, hgb, vg, ht⟩ := own_row hj (by omega)
          simp only [Value.slice.injEq] at e3
          obtain ⟨rfl, -, rfl⟩ := e3
          refine vOrd_nil ?_
          refine Wp.condF rfl rfl ?_
          refine Wp.exit ?_
          refine Wp.seq ?_
          refine Wp.adopt 1003 vg (by omega) rfl (show AllMem (fun d => d ≠ g) _ from (by repeat (first | exact AllMem.args | exact AllMem.of (by simp only [AllL, and_true]; omega) | refine AllMem.put ?_ | refine AllMem.new ?_ (by omega) | refine AllMem.set ?_ (by omega)))) ?_
          have hM0 := padL_len l
          obtain ⟨M, hM⟩ : ∃ M, padL l = M := ⟨_, rfl⟩
          have ht2 : cs.take (l.length + 1 + padK l.length + 8) = bytesV M := by rw [← hM]; exact ht
          rw [hM] at hM0
          refine Wp.region [0, 1, 2] (by kernel_rfl) (by kernel_rfl) ?_
          refine s_build rfl rfl rfl rfl rfl (by kernel_rfl) ?_
          refine s_alloc rfl rfl rfl rfl rfl (fun b5 w9 kb9 lw9 => ?_)
          refine s_store rfl rfl rfl rfl rfl rfl rfl (fun w38 sw38 vw38 => ?_)
          refine vOrd_nil ?_
          refine Wp.seq ?_
          refine Wp.seq ?_
          refine Wp.region [0] (by kernel_rfl) (by kernel_rfl) ?_
          refine s_assign rfl rfl rfl rfl ?_
          refine vOrd_nil ?_
          refine Wp.block ?_
          refine Wp.loop (fun k st W => ∃ (i : Nat) (pt x0 x1 x2 x3 x4 : Int), st = St.of [(2, .p 2 bk1 0), (3, .v (.slice (some ⟨g, 0, none⟩) (l.length + 1 + padK l.length + 8) vc)), (5, .p 5 b5 0), (6, .v (.int .i64 pt))] [(2, bk1, [.int .i64 0, .int .i64 0, .int .i64 0, .int .i64 0, .int .i64 0]), (5, b5, [.int .i64 x0, .int .i64 x1, .int .i64 x2, .int .i64 x3, .int .i64 x4]), (1003, g, cs)] ∧ pt = 64 * (i : Int) ∧ hAt M i = (x0, x1, x2, x3, x4) ∧ 64 * i ≤ l.length + 1 + padK l.length + 8 ∧ k = l.length + 1 + padK l.length + 8 - 64 * i) ?_ ?_
          · exact ⟨_, _, (St.of_le' (env := [(2, .p 2 _ 0), (3, .v _), (5, .p 5 _ 0), (6, .v _)]) (mem := [(2, _, [_, _, _, _, _]), (5, _, [_, _, _, _, _]), (1003, _, _)]) ⟨rfl, rfl, rfl, rfl, trivial⟩ ⟨rfl, rfl, rfl, trivial⟩), 0, _, _, _, _, _, _, rfl, rfl, rfl, by omega, rfl⟩
          · rintro k st w39 ⟨i, pt, x0, x1, x2, x3, x4, rfl, hpt, hh, hi1, rfl⟩
            refine Wp.seq ?_
            refine Wp.seq ?_
            refine Wp.region [0, 1, 2, 3] (by kernel_rfl) (by kernel_rfl) ?_
            refine s_move rfl rfl rfl rfl ?_
            refine s_move rfl rfl rfl rfl ?_
            refine x_len rfl rfl rfl rfl rfl ?_
            refine p_lss rfl rfl rfl rfl rfl (fun h52 => ?_) (fun h52 => ?_)
            · have hi2 : 64 * i + 64 ≤ l.length + 1 + padK l.length + 8 := by omega
              have ok0 := hAt_in M i
              rw [hh] at ok0
              refine vOrd_nil ?_
              refine Wp.condT rfl rfl ?_
              refine Wp.skip ?_
              refine Wp.seq ?_
              refine Wp.block ?_
              refine Wp.seq ?_
              refine Wp.var (h := 2) rfl (fun q2 => ?_)
              refine Wp.var (h := 5) rfl (fun q5 => ?_)
              refine Wp.var (h := 1003) rfl (fun q3 => ?_)
              have s2 := q2.lt
              have s5 := q5.lt
              have s3 := q3.lt
              refine Wp.region [0, 1] (by kernel_rfl) (by kernel_rfl) ?_
              refine s_make (k1 := .i64) (k2 := .i64) (n := 80) (e := 3) rfl rfl rfl rfl rfl rfl rfl rfl (by show (8 : Int) * _ ≤ _; omega) (by omega) ?_
              intro cw ww hcw lww hroww
              have hr2 : RowIs ww cw 3 (rowF fun _ => 0) := by rw [show rowF (fun _ => 0) = (madeCells (Value.int IntKind.i64 0).cells (80 * 1)).toList by kernel_rfl]; exact hroww
              have vw0 := hr2.var
              refine s_assign rfl rfl rfl rfl ?_
              refine vOrd_nil ?_
              refine Wp.seq ?_
              refine Wp.seq ?_
              refine Wp.adopt 1007 vw0 (by omega) rfl (show AllMem (fun d => d ≠ cw) _ from (by repeat (first | exact AllMem.args | exact AllMem.of (by simp only [AllL, and_true]; omega) | refine AllMem.put ?_ | refine AllMem.new ?_ (by omega) | refine AllMem.set ?_ (by omega)))) ?_
              refine Wp.region [0] (by kernel_rfl) (by kernel_rfl) ?_
              refine s_assign rfl rfl rfl rfl ?_
              refine vOrd_nil ?_
              refine Wp.block ?_
              refine Wp.loop (fun k st W => ∃ (t : Nat) (ti : Int), st = St.of [(2, .p 2 bk1 0), (3, .v (.slice (some ⟨g, 0, none⟩) (l.length + 1 + padK l.length + 8) vc)), (5, .p 5 b5 0), (6, .v (.int .i64 pt)), (7, .v (.slice (some ⟨cw, 0, none⟩) 80 80)), (8, .v (.int .i64 ti))] [(2, bk1, [.int .i64 0, .int .i64 0, .int .i64 0, .int .i64 0, .int .i64 0]), (5, b5, [.int .i64 x0, .int .i64 x1, .int .i64 x2, .int .i64 x3, .int .i64 x4]), (1003, g, cs), (1007, cw, rowF (gf M (64 * i) (4 * t)))] ∧ ti = t ∧ t ≤ 16 ∧ k = 16 - t) ?_ ?_
              · exact ⟨_, _, (St.of_le' (env := [(2, .p 2 _ 0), (3, .v _), (5, .p 5 _ 0), (6, .v _), (7, .v _), (8, .v _)]) (mem := [(2, _, [_, _, _, _, _]), (5, _, [_, _, _, _, _]), (1003, _, _), (1007, _, _)]) ⟨rfl, rfl, rfl, rfl, rfl, rfl, trivial⟩ ⟨rfl, rfl, rfl, rfl, trivial⟩), 0, _, rfl, rfl, by omega, rfl⟩
              · rintro k st w44 ⟨t, ti, rfl, hti, ht1, rfl⟩
                refine Wp.seq ?_
                refine Wp.seq ?_
                refine Wp.region [0, 1] (by kernel_rfl) (by kernel_rfl) ?_
                refine s_move rfl rfl rfl rfl ?_
                refine p_lss rfl rfl rfl rfl rfl (fun h57 => ?_) (fun h57 => ?_)
                · refine vOrd_nil ?_
                  refine Wp.condT rfl rfl ?_
                  refine Wp.skip ?_
                  refine Wp.seq ?_
                  refine Wp.block ?_
                  refine Wp.seq ?_
                  refine Wp.region [0] (by kernel_rfl) (by kernel_rfl) ?_
                  refine s_assign rfl rfl rfl rfl ?_
                  refine vOrd_nil ?_
                  refine Wp.block ?_
                  refine Wp.loop (fun k st W => ∃ (j : Nat) (ki : Int), st = St.of [(2, .p 2 bk1 0), (3, .v (.slice (some ⟨g, 0, none⟩) (l.length + 1 + padK l.length + 8) vc)), (5, .p 5 b5 0), (6, .v (.int .i64 pt)), (7, .v (.slice (some ⟨cw, 0, none⟩) 80 80)), (8, .v (.int .i64 ti)), (9, .v (.int .i64 ki))] [(2, bk1, [.int .i64 0, .int .i64 0, .int .i64 0, .int .i64 0, .int .i64 0]), (5, b5, [.int .i64 x0, .int .i64 x1, .int .i64 x2, .int .i64 x3, .int .i64 x4]), (1003, g, cs), (1007, cw, rowF (gf M (64 * i) (4 * t + j)))] ∧ ki = j ∧ j ≤ 4 ∧ k = 4 - j) ?_ ?_
                  · exact ⟨_, _, (St.of_le' (env := [(2, .p 2 _ 0), (3, .v _), (5, .p 5 _ 0), (6, .v _), (7, .v _), (8, .v _), (9, .v _)]) (mem := [(2, _, [_, _, _, _, _]), (5, _, [_, _, _, _, _]), (1003, _, _), (1007, _, _)]) ⟨rfl, rfl, rfl, rfl, rfl, rfl, rfl, trivial⟩ ⟨rfl, rfl, rfl, rfl, trivial⟩), 0, _, rfl, rfl, by omega, rfl⟩
                  · rintro k st w45 ⟨j, ki, rfl, hki, hj1, rfl⟩
                    refine Wp.seq ?_
                    refine Wp.seq ?_
                    refine Wp.region [0, 1] (by kernel_rfl) (by kernel_rfl) ?_
                    refine s_move rfl rfl rfl rfl ?_
                    refine p_lss rfl rfl rfl rfl rfl (fun h61 => ?_) (fun h61 => ?_)
                    · refine vOrd_nil ?_
                      refine Wp.condT rfl rfl ?_
                      refine Wp.skip ?_
                      refine Wp.seq ?_
                      refine Wp.block ?_
                      refine Wp.var (h := 1007) rfl (fun q7 => ?_)
                      refine Wp.var (h := 1003) rfl (fun q3 => ?_)
                      have hlow := gf_low (m := M) (p := (64 * i)) (t := t) (k := j) (by omega)
                      have hbyte := byteF_in M ((64 * i) + (4 * t + j))
                      refine (Wp.drawn (by kernel_rfl) (by kernel_rfl) [0, 1, 2, 3, 4, 5, 6, 7, 8, 9, 10, 11, 12, 13, 14, 15, 16, 17, 18, 19] [262142, 262141, 130955, 130951, 130959, 130975, 131007, 16255, 5887, 4607, 5119, 6143, 0, 0, 0, 0, 0, 0, 0, 0] (by kernel_rfl) (by kernel_rfl) (fun _ _ _ => True) (fun _ _ => ?_))
                      refine s_move rfl rfl rfl rfl ?_
                      refine s_move rfl rfl rfl rfl ?_
                      refine s_move rfl rfl rfl rfl ?_
                      refine s_move rfl rfl rfl rfl ?_
                      refine s_idx (sz := 1) (t) rfl rfl rfl rfl rfl rfl rfl (by omega) (by omega) (by omega) ?_
                      refine s_ldU rfl rfl rfl rfl (by repeat (first | exact q7 | refine Var.later ?_ (by assumption))) (read_row (gf M (64 * i) (4 * t + j)) (j := t) (by omega) rfl) ?_
                      refine a_mul (-9223372036854775808) 9223372036854775807 (by decide) rfl rfl rfl rfl rfl (by omega) (by omega) ?_
                      refine s_move rfl rfl rfl rfl ?_
                      refine s_move rfl rfl rfl rfl ?_
                      refine s_move rfl rfl rfl rfl ?_
                      refine a_mul (-9223372036854775808) 9223372036854775807 (by decide) rfl rfl rfl rfl rfl (by omega) (by omega) ?_
                      refine a_add (-9223372036854775808) 9223372036854775807 (by decide) rfl rfl rfl rfl rfl (by omega) (by omega) ?_
                      refine s_move rfl rfl rfl rfl ?_
                      refine a_add (-9223372036854775808) 9223372036854775807 (by decide) rfl rfl rfl rfl rfl (by omega) (by omega) ?_
                      refine s_idx (sz := 1) ((64 * i) + (4 * t + j)) rfl rfl rfl rfl rfl rfl rfl (by omega) (by omega) (by omega) ?_
                      refine s_ldU rfl rfl rfl rfl (by repeat (first | exact q3 | refine Var.later ?_ (by assumption))) (read_byte (j := (64 * i) + (4 * t + j)) ht2 (by omega) (by omega) rfl) ?_
                      refine a_conv (-9223372036854775808) 9223372036854775807 (by decide) rfl rfl rfl rfl rfl rfl (by omega) (by omega) ?_
                      refine a_add (-9223372036854775808) 9223372036854775807 (by decide) rfl rfl rfl rfl rfl (by omega) (by omega) ?_
                      refine s_idx (sz := 1) (t) rfl rfl rfl rfl rfl rfl rfl (by omega) (by omega) (by omega) ?_
                      refine s_storeR 1007 rfl rfl rfl rfl rfl rfl (write_row (gf M (64 * i) (4 * t + j)) (j := t) (by omega) _ rfl) (fun w48 sw48 vw48 => ?_)
                      refine vOrd_nil ?_
                      rw [← gf_next (by omega)]
                      refine Wp.region [0, 1, 2] (by kernel_rfl) (by kernel_rfl) ?_
                      refine s_move rfl rfl rfl rfl ?_
                      refine a_add (-9223372036854775808) 9223372036854775807 (by decide) rfl rfl rfl rfl rfl (by omega) (by omega) ?_
                      refine s_assign rfl rfl rfl rfl ?_
                      refine vOrd_nil ?_
                      exact ⟨_, _, by omega, (St.of_le' (env := [(2, .p 2 _ 0), (3, .v _), (5, .p 5 _ 0), (6, .v _), (7, .v _), (8, .v _), (9, .v _)]) (mem := [(2, _, [_, _, _, _, _]), (5, _, [_, _, _, _, _]), (1003, _, _), (1007, _, _)]) ⟨rfl, rfl, rfl, rfl, rfl, rfl, rfl, trivial⟩ ⟨rfl, rfl, rfl, rfl, trivial⟩), j + 1, _, rfl, by omega, by omega, rfl⟩
                    · have hj4 : j = 4 := by omega
                      subst hj4
                      refine vOrd_nil ?_
                      refine Wp.condF rfl rfl ?_
                      refine Wp.exit ?_
                      refine Wp.region [0, 1, 2] (by kernel_rfl) (by kernel_rfl) ?_
                      refine s_move rfl rfl rfl rfl ?_
                      refine a_add (-9223372036854775808) 9223372036854775807 (by decide) rfl rfl rfl rfl rfl (by omega) (by omega) ?_
                      refine s_assign rfl rfl rfl rfl ?_
                      refine vOrd_nil ?_
                      exact ⟨_, _, by omega, (St.of_le' (env := [(2, .p 2 _ 0), (3, .v _), (5, .p 5 _ 0), (6, .v _), (7, .v _), (8, .v _)]) (mem := [(2, _, [_, _, _, _, _]), (5, _, [_, _, _, _, _]), (1003, _, _), (1007, _, _)]) ⟨rfl, rfl, rfl, rfl, rfl, rfl, trivial⟩ ⟨rfl, rfl, rfl, rfl, trivial⟩), t + 1, _, rfl, by omega, by omega, rfl⟩
                · have ht16 : t = 16 := by omega
                  subst ht16
                  refine vOrd_nil ?_
                  refine Wp.condF rfl rfl ?_
                  refine Wp.exit ?_
                  refine Wp.seq ?_
                  refine Wp.seq ?_
                  refine Wp.region [0] (by kernel_rfl) (by kernel_rfl) ?_
                  refine s_assign rfl rfl rfl rfl ?_
                  refine vOrd_nil ?_
                  refine Wp.block ?_
                  refine Wp.loop (fun k st W => ∃ (n : Nat) (ti : Int), st = St.of [(2, .p 2 bk1 0), (3, .v (.slice (some ⟨g, 0, none⟩) (l.length + 1 + padK l.length + 8) vc)), (5, .p 5 b5 0), (6, .v (.int .i64 pt)), (7, .v (.slice (some ⟨cw, 0, none⟩) 80 80)), (10, .v (.int .i64 ti))] [(2, bk1, [.int .i64 0, .int .i64 0, .int .i64 0, .int .i64 0, .int .i64 0]), (5, b5, [.int .i64 x0, .int .i64 x1, .int .i64 x2, .int .i64 x3, .int .i64 x4]), (1003, g, cs), (1007, cw, rowF (wf M (64 * i) n))] ∧ ti = 16 + (n : Int) ∧ n ≤ 64 ∧ k = 64 - n) ?_ ?_
                  · exact ⟨_, _, (St.of_le' (env := [(2, .p 2 _ 0), (3, .v _), (5, .p 5 _ 0), (6, .v _), (7, .v _), (10, .v _)]) (mem := [(2, _, [_, _, _, _, _]), (5, _, [_, _, _, _, _]), (1003, _, _), (1007, _, _)]) ⟨rfl, rfl, rfl, rfl, rfl, rfl, trivial⟩ ⟨rfl, rfl, rfl, rfl, trivial⟩), 0, _, rfl, rfl, by omega, rfl⟩
                  · rintro k st w49 ⟨n, ti, rfl, hti, hn1, rfl⟩
                    refine Wp.seq ?_
                    refine Wp.seq ?_
                    refine Wp.region [0, 1] (by kernel_rfl) (by kernel_rfl) ?_
                    refine s_move rfl rfl rfl rfl ?_
                    refine p_lss rfl rfl rfl rfl rfl (fun h84 => ?_) (fun h84 => ?_)
                    · refine vOrd_nil ?_
                      refine Wp.condT rfl rfl ?_
                      refine Wp.skip ?_
                      refine Wp.seq ?_
                      refine Wp.block ?_
                      refine Wp.var (h := 1007) rfl (fun q7 => ?_)
                      have y3 := wf_in M (64 * i) n (16 + n - 3)
                      have y8 := wf_in M (64 * i) n (16 + n - 8)
                      have y14 := wf_in M (64 * i) n (16 + n - 14)
                      have y16 := wf_in M (64 * i) n (16 + n - 16)
                      obtain ⟨t1, t2, t3⟩ := xor4_in y3 y8 y14 y16
                      have t4 := t3
                      unfold inW32 at y3 y8 y14 y16 t1 t2 t3
                      refine (Wp.drawn (by kernel_rfl) (by kernel_rfl) [0, 1, 2, 3, 4, 5, 6, 7, 8, 9, 10, 11, 12, 13, 14, 15, 16, 17, 18, 19, 20, 21, 22, 23, 24, 25, 26, 27] [67108862, 67108861, 16510875, 16510855, 16510863, 16510879, 16510911, 16507775, 16507135, 16507391, 16507903, 16508927, 16510975, 16310271, 16269311, 16285695, 16318463, 16383999, 16515071, 3670015, 0, 0, 0, 0, 0, 0, 0, 0] (by kernel_rfl) (by kernel_rfl) (fun | 25 => fun v _ => v = .int .i64 (nextW (wf M (64 * i) n) (16 + n)) | _ => fun _ _ => True) (fun _ _ => ?_))
                      refine s_move rfl rfl rfl rfl ?_
                      refine s_move rfl rfl rfl rfl ?_
                      refine s_move rfl rfl rfl rfl ?_
                      refine s_move rfl rfl rfl rfl ?_
                      refine a_sub (-9223372036854775808) 9223372036854775807 (by decide) rfl rfl rfl rfl rfl (by omega) (by omega) ?_
                      refine s_idx (sz := 1) (16 + n - 3) rfl rfl rfl rfl rfl rfl rfl (by omega) (by omega) (by omega) ?_
                      refine s_ldU rfl rfl rfl rfl (by repeat (first | exact q7 | refine Var.later ?_ (by assumption))) (read_row (wf M (64 * i) n) (j := 16 + n - 3) (by omega) rfl) ?_
                      refine s_move rfl rfl rfl rfl ?_
                      refine s_move rfl rfl rfl rfl ?_
                      refine a_sub (-9223372036854775808) 9223372036854775807 (by decide) rfl rfl rfl rfl rfl (by omega) (by omega) ?_
                      refine s_idx (sz := 1) (16 + n - 8) rfl rfl rfl rfl rfl rfl rfl (by omega) (by omega) (by omega) ?_
                      refine s_ldU rfl rfl rfl rfl (by repeat (first | exact q7 | refine Var.later ?_ (by assumption))) (read_row (wf M (64 * i) n) (j := 16 + n - 8) (by omega) rfl) ?_
                      refine a_xor 63 9223372036854775807 (by decide) rfl rfl rfl rfl rfl (by omega) (by omega) (by omega) (by omega) ?_
                      refine s_move rfl rfl rfl rfl ?_
                      refine s_move rfl rfl rfl rfl ?_
                      refine a_sub (-9223372036854775808) 9223372036854775807 (by decide) rfl rfl rfl rfl rfl (by omega) (by omega) ?_
                      refine s_idx (sz := 1) (16 + n - 14) rfl rfl rfl rfl rfl rfl rfl (by omega) (by omega) (by omega) ?_
                      refine s_ldU rfl rfl rfl rfl (by repeat (first | exact q7 | refine Var.later ?_ (by assumption))) (read_row (wf M (64 * i) n) (j := 16 + n - 14) (by omega) rfl) ?_
                      refine a_xor 63 9223372036854775807 (by decide) rfl rfl rfl rfl rfl (by omega) (by omega) (by omega) (by omega) ?_
                      refine s_move rfl rfl rfl rfl ?_
                      refine s_move rfl rfl rfl rfl ?_
                      refine a_sub (-9223372036854775808) 9223372036854775807 (by decide) rfl rfl rfl rfl rfl (by omega) (by omega) ?_
                      refine s_idx (sz := 1) (16 + n - 16) rfl rfl rfl rfl rfl rfl rfl (by omega) (by omega) (by omega) ?_
                      refine s_ldU rfl rfl rfl rfl (by repeat (first | exact q7 | refine Var.later ?_ (by assumption))) (read_row (wf M (64 * i) n) (j := 16 + n - 16) (by omega) rfl) ?_
                      refine a_xor 63 9223372036854775807 (by decide) rfl rfl rfl rfl rfl (by omega) (by omega) (by omega) (by omega) ?_
                      refine s_callD rfl rfl rfl (by kernel_rfl) rfl (fun wc lc => turn1_any t4 wc) ?_
                      rintro v w54 u54 rfl lw54 mw54
                      refine s_idx (sz := 1) (16 + n) rfl rfl rfl rfl rfl rfl rfl (by omega) (by omega) (by omega) ?_
                      refine s_storeR 1007 rfl rfl rfl rfl rfl rfl (write_row (wf M (64 * i) n) (j := 16 + n) (by omega) _ rfl) (fun w55 sw55 vw55 => ?_)
                      refine vOrd_nil ?_
                      refine Wp.region [0, 1, 2] (by kernel_rfl) (by kernel_rfl) ?_
                      refine s_move rfl rfl rfl rfl ?_
                      refine a_add (-9223372036854775808) 9223372036854775807 (by decide) rfl rfl rfl rfl rfl (by omega) (by omega) ?_
                      refine s_assign rfl rfl rfl rfl ?_
                      refine vOrd_nil ?_
                      exact ⟨_, _, by omega, (St.of_le' (env := [(2, .p 2 _ 0), (3, .v _), (5, .p 5 _ 0), (6, .v _), (7, .v _), (10, .v _)]) (mem := [(2, _, [_, _, _, _, _]), (5, _, [_, _, _, _, _]), (1003, _, _), (1007, _, _)]) ⟨rfl, rfl, rfl, rfl, rfl, rfl, trivial⟩ ⟨rfl, rfl, rfl, rfl, trivial⟩), n + 1, _, rfl, by omega, by omega, rfl⟩
                    · have hn64 : n = 64 := by omega
                      subst hn64
                      refine vOrd_nil ?_
                      refine Wp.condF rfl rfl ?_
                      refine Wp.exit ?_
                      refine Wp.seq ?_
                      refine (Wp.drawn (by kernel_rfl) (by kernel_rfl) [0, 1, 2, 3, 4, 5, 6, 7, 8, 9, 10, 11, 12, 13, 14] [1020, 1021, 2035, 2039, 4047, 4063, 7999, 8063, 15615, 15871, 0, 0, 0, 0, 0] (by kernel_rfl) (by kernel_rfl) (fun _ _ _ => True) (fun _ _ => ?_))
                      refine s_idxO (sz := 1) 0 rfl rfl rfl rfl rfl rfl rfl (by decide) (by decide) rfl ?_
                      refine s_load rfl rfl rfl rfl rfl rfl rfl ?_
                      refine s_idxO (sz := 1) 1 rfl rfl rfl rfl rfl rfl rfl (by decide) (by decide) rfl ?_
                      refine s_load rfl rfl rfl rfl rfl rfl rfl ?_
                      refine s_idxO (sz := 1) 2 rfl rfl rfl rfl rfl rfl rfl (by decide) (by decide) rfl ?_
                      refine s_load rfl rfl rfl rfl rfl rfl rfl ?_
                      refine s_idxO (sz := 1) 3 rfl rfl rfl rfl rfl rfl rfl (by decide) (by decide) rfl ?_
                      refine s_load rfl rfl rfl rfl rfl rfl rfl ?_
                      refine s_idxO (sz := 1) 4 rfl rfl rfl rfl rfl rfl rfl (by decide) (by decide) rfl ?_
                      refine s_load rfl rfl rfl rfl rfl rfl rfl ?_
                      refine s_assign rfl rfl rfl rfl ?_
                      refine s_assign rfl rfl rfl rfl ?_
                      refine s_assign rfl rfl rfl rfl ?_
                      refine s_assign rfl rfl rfl rfl ?_
                      refine s_assign rfl rfl rfl rfl ?_
                      refine vOrd_nil ?_
                      refine Wp.seq ?_
                      refine Wp.seq ?_
                      refine Wp.region [0] (by kernel_rfl) (by kernel_rfl) ?_
                      refine s_assign rfl rfl rfl rfl ?_
                      refine vOrd_nil ?_
                      refine Wp.block ?_
                      refine Wp.loop (fun k st W => ∃ (t : Nat) (ti a b c d e : Int), st = St.of [(2, .p 2 bk1 0), (3, .v (.slice (some ⟨g, 0, none⟩) (l.length + 1 + padK l.length + 8) vc)), (5, .p 5 b5 0), (6, .v (.int .i64 pt)), (7, .v (.slice (some ⟨cw, 0, none⟩) 80 80)), (11, .v (.int .i64 a)), (12, .v (.int .i64 b)), (13, .v (.int .i64 c)), (14, .v (.int .i64 d)), (15, .v (.int .i64 e)), (16, .v (.int .i64 ti))] [(2, bk1, [.int .i64 0, .int .i64 0, .int .i64 0, .int .i64 0, .int .i64 0]), (5, b5, [.int .i64 x0, .int .i64 x1, .int .i64 x2, .int .i64 x3, .int .i64 x4]), (1003, g, cs), (1007, cw, rowF (wf M (64 * i) 64))] ∧ ti = t ∧ t ≤ 80 ∧ rnds (wf M (64 * i) 64) t (x0, x1, x2, x3, x4) = (a, b, c, d, e) ∧ k = 80 - t) ?_ ?_
                      · exact ⟨_, _, (St.of_le' (env := [(2, .p 2 _ 0), (3, .v _), (5, .p 5 _ 0), (6, .v _), (7, .v _), (11, .v _), (12, .v _), (13, .v _), (14, .v _), (15, .v _), (16, .v _)]) (mem := [(2, _, [_, _, _, _, _]), (5, _, [_, _, _, _, _]), (1003, _, _), (1007, _, _)]) ⟨rfl, rfl, rfl, rfl, rfl, rfl, rfl, rfl, rfl, rfl, rfl, trivial⟩ ⟨rfl, rfl, rfl, rfl, trivial⟩), 0, _, _, _, _, _, _, rfl, rfl, by omega, rfl, rfl⟩
                      · rintro k st w56 ⟨t, ti, a, b, c, d, e, rfl, hti, ht1, hr, rfl⟩
                        refine Wp.seq ?_
                        refine Wp.seq ?_
                        refine Wp.region [0, 1] (by kernel_rfl) (by kernel_rfl) ?_
                        refine s_move rfl rfl rfl rfl ?_
                        refine p_lss rfl rfl rfl rfl rfl (fun h125 => ?_) (fun h125 => ?_)
                        · have ok1 := rnds_in (W := wf M (64 * i) 64) ok0 t
                          rw [hr] at ok1
                          obtain ⟨ha, hb, hc, hd, he⟩ := ok1
                          have ha' := ha
                          have hb' := hb
                          have hc' := hc
                          have hd' := hd
                          have he' := he
                          unfold inW32 at ha' hb' hc' hd' he'
                          have x1' := bXor32 hb'.2 hc'.2
                          have a1' := bAnd_in (b := c) hb'.1
                          have a2' := bAnd_in (a := 4294967295 - b) (b := d) (by omega)
                          have a3' := bAnd_in (b := d) hb'.1
                          have a4' := bAnd_in (b := d) hc'.1
                          have o1' := bOr32 (a := bAnd b c) (b := bAnd b d) (by omega) (by omega)
                          refine vOrd_nil ?_
                          refine Wp.condT rfl rfl ?_
                          refine Wp.skip ?_
                          refine Wp.seq ?_
                          refine Wp.block ?_
                          refine Wp.seq ?_
                          refine Wp.region [0, 1, 2, 3, 4, 5, 6] (by kernel_rfl) (by kernel_rfl) ?_
                          refine s_move rfl rfl rfl rfl ?_
                          refine s_move rfl rfl rfl rfl ?_
                          refine a_xor 63 9223372036854775807 (by decide) rfl rfl rfl rfl rfl (by omega) (by omega) (by omega) (by omega) ?_
                          refine s_move rfl rfl rfl rfl ?_
                          refine a_xor 63 9223372036854775807 (by decide) rfl rfl rfl rfl rfl (by omega) (by omega) (by omega) (by omega) ?_
                          refine s_assign rfl rfl rfl rfl ?_
                          refine s_assign rfl rfl rfl rfl ?_
                          refine vOrd_nil ?_
                          refine Wp.seq ?_
                          refine Wp.seq ?_
                          refine Wp.region [0, 1] (by kernel_rfl) (by kernel_rfl) ?_
                          refine s_move rfl rfl rfl rfl ?_
                          refine p_lss rfl rfl rfl rfl rfl (fun h134 => ?_) (fun h134 => ?_)
                          · refine vOrd_nil ?_
                            refine Wp.condT rfl rfl ?_
                            refine Wp.region [0, 1, 2, 3, 4, 5, 6, 7, 8, 9] (by kernel_rfl) (by kernel_rfl) ?_
                            refine s_move rfl rfl rfl rfl ?_
                            refine s_move rfl rfl rfl rfl ?_
                            refine a_and 63 9223372036854775807 (by decide) rfl rfl rfl rfl rfl (by omega) (by omega) (by omega) (by omega) ?_
                            refine s_move rfl rfl rfl rfl ?_
                            refine a_sub (-9223372036854775808) 9223372036854775807 (by decide) rfl rfl rfl rfl rfl (by omega) (by omega) ?_
                            refine s_move rfl rfl rfl rfl ?_
                            refine a_and 63 9223372036854775807 (by decide) rfl rfl rfl rfl rfl (by omega) (by omega) (by omega) (by omega) ?_
                            refine a_add (-9223372036854775808) 9223372036854775807 (by decide) rfl rfl rfl rfl rfl (by omega) (by omega) ?_
                            refine s_assign rfl rfl rfl rfl ?_
                            refine s_assign rfl rfl rfl rfl ?_
                            refine vOrd_nil ?_
                            refine Wp.seq ?_
                            have hF : bAnd b c + bAnd (4294967295 - b) d = fT t b c d := by unfold fT; rw [if_pos (by omega)]
                            have hK : (1518500249 : Int) = kT t := by unfold kT; rw [if_pos (by omega)]
                            have fi := fT_in (t := t) hb hc hd
                            rw [← hF] at fi
                            have ww3 := wf_in M (64 * i) 64 t
                            have r5 := rot5_in ha
                            unfold inW32 at fi ww3 r5
                            refine Wp.var (h := 1007) rfl (fun q7 => ?_)
                            refine (Wp.drawn (by kernel_rfl) (by kernel_rfl) [0, 2, 4, 6, 8, 9, 10, 11, 1, 3, 5, 7, 12, 13, 14] [3924, 3923, 3919, 3903, 767, 511, 1023, 2047, 0, 0, 0, 0, 0, 0, 0] (by kernel_rfl) (by kernel_rfl) (fun | 1 => fun v _ => v = .int .i64 (rot 32 134217728 a) | _ => fun _ _ => True) (fun _ _ => ?_))
                            refine s_move rfl rfl rfl rfl ?_
                            refine s_move rfl rfl rfl rfl ?_
                            refine s_move rfl rfl rfl rfl ?_
                            refine s_move rfl rfl rfl rfl ?_
                            refine s_move rfl rfl rfl rfl ?_
                            refine s_move rfl rfl rfl rfl ?_
                            refine s_idx (sz := 1) (t) rfl rfl rfl rfl rfl rfl rfl (by omega) (by omega) (by omega) ?_
                            refine s_ldU rfl rfl rfl rfl (by repeat (first | exact q7 | refine Var.later ?_ (by assumption))) (read_row (wf M (64 * i) 64) (j := t) (by omega) rfl) ?_
                            refine s_callD rfl rfl rfl (by kernel_rfl) rfl (fun wc lc => turn5_any ha wc) ?_
                            rintro v w58 u58 rfl lw58 mw58
                            refine a_add (-9223372036854775808) 9223372036854775807 (by decide) rfl rfl rfl rfl rfl (by omega) (by omega) ?_
                            refine a_add (-9223372036854775808) 9223372036854775807 (by decide) rfl rfl rfl rfl rfl (by omega) (by omega) ?_
                            refine a_add (-9223372036854775808) 9223372036854775807 (by decide) rfl rfl rfl rfl rfl (by omega) (by omega) ?_
                            refine a_add (-9223372036854775808) 9223372036854775807 (by decide) rfl rfl rfl rfl rfl (by omega) (by omega) ?_
                            refine a_rem rfl rfl rfl rfl rfl (by omega) (by omega) ?_
                            refine s_assign rfl rfl rfl rfl ?_
                            refine vOrd_nil ?_
                            refine Wp.region [0, 1, 2, 3, 4, 5, 6, 7, 8, 9, 10] (by kernel_rfl) (by kernel_rfl) ?_
                            refine s_move rfl rfl rfl rfl ?_
                            refine s_move rfl rfl rfl rfl ?_
                            refine s_move rfl rfl rfl rfl ?_
                            refine s_callT rfl rfl rfl (by kernel_rfl) rfl (turn30_any hb _) ?_
                            rintro v w59 rfl lw59
                            refine s_move rfl rfl rfl rfl ?_
                            refine s_move rfl rfl rfl rfl ?_
                            refine s_assign rfl rfl rfl rfl ?_
                            refine s_assign rfl rfl rfl rfl ?_
                            refine s_assign rfl rfl rfl rfl ?_
                            refine s_assign rfl rfl rfl rfl ?_
                            refine s_assign rfl rfl rfl rfl ?_
                            refine vOrd_nil ?_
                            refine Wp.region [0, 1, 2] (by kernel_rfl) (by kernel_rfl) ?_
                            refine s_move rfl rfl rfl rfl ?_
                            refine a_add (-9223372036854775808) 9223372036854775807 (by decide) rfl rfl rfl rfl rfl (by omega) (by omega) ?_
                            refine s_assign rfl rfl rfl rfl ?_
                            refine vOrd_nil ?_
                            have hnx : rnds (wf M (64 * i) 64) (t + 1) (x0, x1, x2, x3, x4) = ((rot 32 134217728 a + (bAnd b c + bAnd (4294967295 - b) d) + e + 1518500249 + wf M (64 * i) 64 t) % 4294967296, a, rot 1073741824 4 b, c, d) := by rw [rnds, hr, rnd, hF, ← hK]
                            exact ⟨_, _, by omega, (St.of_le' (env := [(2, .p 2 _ 0), (3, .v _), (5, .p 5 _ 0), (6, .v _), (7, .v _), (11, .v _), (12, .v _), (13, .v _), (14, .v _), (15, .v _), (16, .v _)]) (mem := [(2, _, [_, _, _, _, _]), (5, _, [_, _, _, _, _]), (1003, _, _), (1007, _, _)]) ⟨rfl, rfl, rfl, rfl, rfl, rfl, rfl, rfl, rfl, rfl, rfl, trivial⟩ ⟨rfl, rfl, rfl, rfl, trivial⟩), t + 1, _, _, _, _, _, _, rfl, by omega, by omega, hnx, rfl⟩
                          · refine vOrd_nil ?_
                            refine Wp.condF rfl rfl ?_
                            refine Wp.seq ?_
                            refine Wp.region [0, 1] (by kernel_rfl) (by kernel_rfl) ?_
                            refine s_move rfl rfl rfl rfl ?_
                            refine p_lss rfl rfl rfl rfl rfl (fun h144 => ?_) (fun h144 => ?_)
                            · refine vOrd_nil ?_
                              refine Wp.condT rfl rfl ?_
                              refine Wp.region [0] (by kernel_rfl) (by kernel_rfl) ?_
                              refine s_assign rfl rfl rfl rfl ?_
                              refine vOrd_nil ?_
                              refine Wp.seq ?_
                              have hF : bXor (bXor b c) d = fT t b c d := by unfold fT; rw [if_neg (by omega), if_pos (by omega)]
                              have hK : (1859775393 : Int) = kT t := by unfold kT; rw [if_neg (by omega), if_pos (by omega)]
                              have fi := fT_in (t := t) hb hc hd
                              rw [← hF] at fi
                              have ww3 := wf_in M (64 * i) 64 t
                              have r5 := rot5_in ha
                              unfold inW32 at fi ww3 r5
                              refine Wp.var (h := 1007) rfl (fun q7 => ?_)
                              refine (Wp.drawn (by kernel_rfl) (by kernel_rfl) [0, 2, 4, 6, 8, 9, 10, 11, 1, 3, 5, 7, 12, 13, 14] [3924, 3923, 3919, 3903, 767, 511, 1023, 2047, 0, 0, 0, 0, 0, 0, 0] (by kernel_rfl) (by kernel_rfl) (fun | 1 => fun v _ => v = .int .i64 (rot 32 134217728 a) | _ => fun _ _ => True) (fun _ _ => ?_))
                              refine s_move rfl rfl rfl rfl ?_
                              refine s_move rfl rfl rfl rfl ?_
                              refine s_move rfl rfl rfl rfl ?_
                              refine s_move rfl rfl rfl rfl ?_
                              refine s_move rfl rfl rfl rfl ?_
                              refine s_move rfl rfl rfl rfl ?_
                              refine s_idx (sz := 1) (t) rfl rfl rfl rfl rfl rfl rfl (by omega) (by omega) (by omega) ?_
                              refine s_ldU rfl rfl rfl rfl (by repeat (first | exact q7 | refine Var.later ?_ (by assumption))) (read_row (wf M (64 * i) 64) (j := t) (by omega) rfl) ?_
                              refine s_callD rfl rfl rfl (by kernel_rfl) rfl (fun wc lc => turn5_any ha wc) ?_
                              rintro v w61 u61 rfl lw61 mw61
                              refine a_add (-9223372036854775808) 9223372036854775807 (by decide) rfl rfl rfl rfl rfl (by omega) (by omega) ?_
                              refine a_add (-9223372036854775808) 9223372036854775807 (by decide) rfl rfl rfl rfl rfl (by omega) (by omega) ?_
                              refine a_add (-9223372036854775808) 9223372036854775807 (by decide) rfl rfl rfl rfl rfl (by omega) (by omega) ?_
                              refine a_add (-9223372036854775808) 9223372036854775807 (by decide) rfl rfl rfl rfl rfl (by omega) (by omega) ?_
                              refine a_rem rfl rfl rfl rfl rfl (by omega) (by omega) ?_
                              refine s_assign rfl rfl rfl rfl ?_
                              refine vOrd_nil ?_
                              refine Wp.region [0, 1, 2, 3, 4, 5, 6, 7, 8, 9, 10] (by kernel_rfl) (by kernel_rfl) ?_
                              refine s_move rfl rfl rfl rfl ?_
                              refine s_move rfl rfl rfl rfl ?_
                              refine s_move rfl rfl rfl rfl ?_
                              refine s_callT rfl rfl rfl (by kernel_rfl) rfl (turn30_any hb _) ?_
                              rintro v w62 rfl lw62
                              refine s_move rfl rfl rfl rfl ?_
                              refine s_move rfl rfl rfl rfl ?_
                              refine s_assign rfl rfl rfl rfl ?_
                              refine s_assign rfl rfl rfl rfl ?_
                              refine s_assign rfl rfl rfl rfl ?_
                              refine s_assign rfl rfl rfl rfl ?_
                              refine s_assign rfl rfl rfl rfl ?_
                              refine vOrd_nil ?_
                              refine Wp.region [0, 1, 2] (by kernel_rfl) (by kernel_rfl) ?_
                              refine s_move rfl rfl rfl rfl ?_
                              refine a_add (-9223372036854775808) 9223372036854775807 (by decide) rfl rfl rfl rfl rfl (by omega) (by omega) ?_
                              refine s_assign rfl rfl rfl rfl ?_
                              refine vOrd_nil ?_
                              have hnx : rnds (wf M (64 * i) 64) (t + 1) (x0, x1, x2, x3, x4) = ((rot 32 134217728 a + (bXor (bXor b c) d) + e + 1859775393 + wf M (64 * i) 64 t) % 4294967296, a, rot 1073741824 4 b, c, d) := by rw [rnds, hr, rnd, hF, ← hK]
                              exact ⟨_, _, by omega, (St.of_le' (env := [(2, .p 2 _ 0), (3, .v _), (5, .p 5 _ 0), (6, .v _), (7, .v _), (11, .v _), (12, .v _), (13, .v _), (14, .v _), (15, .v _), (16, .v _)]) (mem := [(2, _, [_, _, _, _, _]), (5, _, [_, _, _, _, _]), (1003, _, _), (1007, _, _)]) ⟨rfl, rfl, rfl, rfl, rfl, rfl, rfl, rfl, rfl, rfl, rfl, trivial⟩ ⟨rfl, rfl, rfl, rfl, trivial⟩), t + 1, _, _, _, _, _, _, rfl, by omega, by omega, hnx, rfl⟩
                            · refine vOrd_nil ?_
                              refine Wp.condF rfl rfl ?_
                              refine Wp.seq ?_
                              refine Wp.region [0, 1] (by kernel_rfl) (by kernel_rfl) ?_
                              refine s_move rfl rfl rfl rfl ?_
                              refine p_lss rfl rfl rfl rfl rfl (fun h146 => ?_) (fun h146 => ?_)
                              · refine vOrd_nil ?_
                                refine Wp.condT rfl rfl ?_
                                refine Wp.region [0, 1, 2, 3, 4, 5, 6, 7, 8, 9, 10, 11, 12] (by kernel_rfl) (by kernel_rfl) ?_
                                refine s_move rfl rfl rfl rfl ?_
                                refine s_move rfl rfl rfl rfl ?_
                                refine a_and 63 9223372036854775807 (by decide) rfl rfl rfl rfl rfl (by omega) (by omega) (by omega) (by omega) ?_
                                refine s_move rfl rfl rfl rfl ?_
                                refine s_move rfl rfl rfl rfl ?_
                                refine a_and 63 9223372036854775807 (by decide) rfl rfl rfl rfl rfl (by omega) (by omega) (by omega) (by omega) ?_
                                refine a_or 63 9223372036854775807 (by decide) rfl rfl rfl rfl rfl (by omega) (by omega) (by omega) (by omega) ?_
                                refine s_move rfl rfl rfl rfl ?_
                                refine s_move rfl rfl rfl rfl ?_
                                refine a_and 63 9223372036854775807 (by decide) rfl rfl rfl rfl rfl (by omega) (by omega) (by omega) (by omega) ?_
                                refine a_or 63 9223372036854775807 (by decide) rfl rfl rfl rfl rfl (by omega) (by omega) (by omega) (by omega) ?_
                                refine s_assign rfl rfl rfl rfl ?_
                                refine s_assign rfl rfl rfl rfl ?_
                                refine vOrd_nil ?_
                                refine Wp.seq ?_
                                have hF : bOr (bOr (bAnd b c) (bAnd b d)) (bAnd c d) = fT t b c d := by unfold fT; rw [if_neg (by omega), if_neg (by omega), if_pos (by omega)]
                                have hK : (2400959708 : Int) = kT t := by unfold kT; rw [if_neg (by omega), if_neg (by omega), if_pos (by omega)]
                                have fi := fT_in (t := t) hb hc hd
                                rw [← hF] at fi
                                have ww3 := wf_in M (64 * i) 64 t
                                have r5 := rot5_in ha
                                unfold inW32 at fi ww3 r5
                                refine Wp.var (h := 1007) rfl (fun q7 => ?_)
                                refine (Wp.drawn (by kernel_rfl) (by kernel_rfl) [0, 2, 4, 6, 8, 9, 10, 11, 1, 3, 5, 7, 12, 13, 14] [3924, 3923, 3919, 3903, 767, 511, 1023, 2047, 0, 0, 0, 0, 0, 0, 0] (by kernel_rfl) (by kernel_rfl) (fun | 1 => fun v _ => v = .int .i64 (rot 32 134217728 a) | _ => fun _ _ => True) (fun _ _ => ?_))
                                refine s_move rfl rfl rfl rfl ?_
                                refine s_move rfl rfl rfl rfl ?_
                                refine s_move rfl rfl rfl rfl ?_
                                refine s_move rfl rfl rfl rfl ?_
                                refine s_move rfl rfl rfl rfl ?_
                                refine s_move rfl rfl rfl rfl ?_
                                refine s_idx (sz := 1) (t) rfl rfl rfl rfl rfl rfl rfl (by omega) (by omega) (by omega) ?_
                                refine s_ldU rfl rfl rfl rfl (by repeat (first | exact q7 | refine Var.later ?_ (by assumption))) (read_row (wf M (64 * i) 64) (j := t) (by omega) rfl) ?_
                                refine s_callD rfl rfl rfl (by kernel_rfl) rfl (fun wc lc => turn5_any ha wc) ?_
                                rintro v w64 u64 rfl lw64 mw64
                                refine a_add (-9223372036854775808) 9223372036854775807 (by decide) rfl rfl rfl rfl rfl (by omega) (by omega) ?_
                                refine a_add (-9223372036854775808) 9223372036854775807 (by decide) rfl rfl rfl rfl rfl (by omega) (by omega) ?_
                                refine a_add (-9223372036854775808) 9223372036854775807 (by decide) rfl rfl rfl rfl rfl (by omega) (by omega) ?_
                                refine a_add (-9223372036854775808) 9223372036854775807 (by decide) rfl rfl rfl rfl rfl (by omega) (by omega) ?_
                                refine a_rem rfl rfl rfl rfl rfl (by omega) (by omega) ?_
                                refine s_assign rfl rfl rfl rfl ?_
                                refine vOrd_nil ?_
                                refine Wp.region [0, 1, 2, 3, 4, 5, 6, 7, 8, 9, 10] (by kernel_rfl) (by kernel_rfl) ?_
                                refine s_move rfl rfl rfl rfl ?_
                                refine s_move rfl rfl rfl rfl ?_
                                refine s_move rfl rfl rfl rfl ?_
                                refine s_callT rfl rfl rfl (by kernel_rfl) rfl (turn30_any hb _) ?_
                                rintro v w65 rfl lw65
                                refine s_move rfl rfl rfl rfl ?_
                                refine s_move rfl rfl rfl rfl ?_
                                refine s_assign rfl rfl rfl rfl ?_
                                refine s_assign rfl rfl rfl rfl ?_
                                refine s_assign rfl rfl rfl rfl ?_
                                refine s_assign rfl rfl rfl rfl ?_
                                refine s_assign rfl rfl rfl rfl ?_
                                refine vOrd_nil ?_
                                refine Wp.region [0, 1, 2] (by kernel_rfl) (by kernel_rfl) ?_
                                refine s_move rfl rfl rfl rfl ?_
                                refine a_add (-9223372036854775808) 9223372036854775807 (by decide) rfl rfl rfl rfl rfl (by omega) (by omega) ?_
                                refine s_assign rfl rfl rfl rfl ?_
                                refine vOrd_nil ?_
                                have hnx : rnds (wf M (64 * i) 64) (t + 1) (x0, x1, x2, x3, x4) = ((rot 32 134217728 a + (bOr (bOr (bAnd b c) (bAnd b d)) (bAnd c d)) + e + 2400959708 + wf M (64 * i) 64 t) % 4294967296, a, rot 1073741824 4 b, c, d) := by rw [rnds, hr, rnd, hF, ← hK]
                                exact ⟨_, _, by omega, (St.of_le' (env := [(2, .p 2 _ 0), (3, .v _), (5, .p 5 _ 0), (6, .v _), (7, .v _), (11, .v _), (12, .v _), (13, .v _), (14, .v _), (15, .v _), (16, .v _)]) (mem := [(2, _, [_, _, _, _, _]), (5, _, [_, _, _, _, _]), (1003, _, _), (1007, _, _)]) ⟨rfl, rfl, rfl, rfl, rfl, rfl, rfl, rfl, rfl, rfl, rfl, trivial⟩ ⟨rfl, rfl, rfl, rfl, trivial⟩), t + 1, _, _, _, _, _, _, rfl, by omega, by omega, hnx, rfl⟩
                              · refine vOrd_nil ?_
                                refine Wp.condF rfl rfl ?_
                                refine Wp.skip ?_
                                refine Wp.seq ?_
                                have hF : bXor (bXor b c) d = fT t b c d := by unfold fT; rw [if_neg (by omega), if_neg (by omega), if_neg (by omega)]
                                have hK : (3395469782 : Int) = kT t := by unfold kT; rw [if_neg (by omega), if_neg (by omega), if_neg (by omega)]
                                have fi := fT_in (t := t) hb hc hd
                                rw [← hF] at fi
                                have ww3 := wf_in M (64 * i) 64 t
                                have r5 := rot5_in ha
                                unfold inW32 at fi ww3 r5
                                refine Wp.var (h := 1007) rfl (fun q7 => ?_)
                                refine (Wp.drawn (by kernel_rfl) (by kernel_rfl) [0, 2, 4, 6, 8, 9, 10, 11, 1, 3, 5, 7, 12, 13, 14] [3924, 3923, 3919, 3903, 767, 511, 1023, 2047, 0, 0, 0, 0, 0, 0, 0] (by kernel_rfl) (by kernel_rfl) (fun | 1 => fun v _ => v = .int .i64 (rot 32 134217728 a) | _ => fun _ _ => True) (fun _ _ => ?_))
                                refine s_move rfl rfl rfl rfl ?_
                                refine s_move rfl rfl rfl rfl ?_
                                refine s_move rfl rfl rfl rfl ?_
                                refine s_move rfl rfl rfl rfl ?_
                                refine s_move rfl rfl rfl rfl ?_
                                refine s_move rfl rfl rfl rfl ?_
                                refine s_idx (sz := 1) (t) rfl rfl rfl rfl rfl rfl rfl (by omega) (by omega) (by omega) ?_
                                refine s_ldU rfl rfl rfl rfl (by repeat (first | exact q7 | refine Var.later ?_ (by assumption))) (read_row (wf M (64 * i) 64) (j := t) (by omega) rfl) ?_
                                refine s_callD rfl rfl rfl (by kernel_rfl) rfl (fun wc lc => turn5_any ha wc) ?_
                                rintro v w67 u67 rfl lw67 mw67
                                refine a_add (-9223372036854775808) 9223372036854775807 (by decide) rfl rfl rfl rfl rfl (by omega) (by omega) ?_
                                refine a_add (-9223372036854775808) 9223372036854775807 (by decide) rfl rfl rfl rfl rfl (by omega) (by omega) ?_
                                refine a_add (-9223372036854775808) 9223372036854775807 (by decide) rfl rfl rfl rfl rfl (by omega) (by omega) ?_
                                refine a_add (-9223372036854775808) 9223372036854775807 (by decide) rfl rfl rfl rfl rfl (by omega) (by omega) ?_
                                refine a_rem rfl rfl rfl rfl rfl (by omega) (by omega) ?_
                                refine s_assign rfl rfl rfl rfl ?_
                                refine vOrd_nil ?_
                                refine Wp.region [0, 1, 2, 3, 4, 5, 6, 7, 8, 9, 10] (by kernel_rfl) (by kernel_rfl) ?_
                                refine s_move rfl rfl rfl rfl ?_
                                refine s_move rfl rfl rfl rfl ?_
                                refine s_move rfl rfl rfl rfl ?_
                                refine s_callT rfl rfl rfl (by kernel_rfl) rfl (turn30_any hb _) ?_
                                rintro v w68 rfl lw68
                                refine s_move rfl rfl rfl rfl ?_
                                refine s_move rfl rfl rfl rfl ?_
                                refine s_assign rfl rfl rfl rfl ?_
                                refine s_assign rfl rfl rfl rfl ?_
                                refine s_assign rfl rfl rfl rfl ?_
                                refine s_assign rfl rfl rfl rfl ?_
                                refine s_assign rfl rfl rfl rfl ?_
                                refine vOrd_nil ?_
                                refine Wp.region [0, 1, 2] (by kernel_rfl) (by kernel_rfl) ?_
                                refine s_move rfl rfl rfl rfl ?_
                                refine a_add (-9223372036854775808) 9223372036854775807 (by decide) rfl rfl rfl rfl rfl (by omega) (by omega) ?_
                                refine s_assign rfl rfl rfl rfl ?_
                                refine vOrd_nil ?_
                                have hnx : rnds (wf M (64 * i) 64) (t + 1) (x0, x1, x2, x3, x4) = ((rot 32 134217728 a + (bXor (bXor b c) d) + e + 3395469782 + wf M (64 * i) 64 t) % 4294967296, a, rot 1073741824 4 b, c, d) := by rw [rnds, hr, rnd, hF, ← hK]
                                exact ⟨_, _, by omega, (St.of_le' (env := [(2, .p 2 _ 0), (3, .v _), (5, .p 5 _ 0), (6, .v _), (7, .v _), (11, .v _), (12, .v _), (13, .v _), (14, .v _), (15, .v _), (16, .v _)]) (mem := [(2, _, [_, _, _, _, _]), (5, _, [_, _, _, _, _]), (1003, _, _), (1007, _, _)]) ⟨rfl, rfl, rfl, rfl, rfl, rfl, rfl, rfl, rfl, rfl, rfl, trivial⟩ ⟨rfl, rfl, rfl, rfl, trivial⟩), t + 1, _, _, _, _, _, _, rfl, by omega, by omega, hnx, rfl⟩
                        · have ht80 : t = 80 := by omega
                          subst ht80
                          have ok8 := rnds_in (W := wf M (64 * i) 64) ok0 80
                          rw [hr] at ok8
                          obtain ⟨g1, g2, g3, g4, g5⟩ := ok0
                          obtain ⟨f1, f2, f3, f4, f5⟩ := ok8
                          unfold inW32 at g1 g2 g3 g4 g5 f1 f2 f3 f4 f5
                          refine vOrd_nil ?_
                          refine Wp.condF rfl rfl ?_
                          refine Wp.exit ?_
                          refine Wp.region [0, 1, 2, 3, 4, 5, 6, 7, 8, 9, 10, 11, 12, 13, 14, 15, 16, 17, 18, 19, 20, 21, 22, 23, 24, 25, 26] (by kernel_rfl) (by kernel_rfl) ?_
                          refine s_idxO (sz := 1) 0 rfl rfl rfl rfl rfl rfl rfl (by decide) (by decide) rfl ?_
                          refine s_load rfl rfl rfl rfl rfl rfl rfl ?_
                          refine s_move rfl rfl rfl rfl ?_
                          refine a_add (-9223372036854775808) 9223372036854775807 (by decide) rfl rfl rfl rfl rfl (by omega) (by omega) ?_
                          refine a_rem rfl rfl rfl rfl rfl (by omega) (by omega) ?_
                          refine s_idxO (sz := 1) 1 rfl rfl rfl rfl rfl rfl rfl (by decide) (by decide) rfl ?_
                          refine s_load rfl rfl rfl rfl rfl rfl rfl ?_
                          refine s_move rfl rfl rfl rfl ?_
                          refine a_add (-9223372036854775808) 9223372036854775807 (by decide) rfl rfl rfl rfl rfl (by omega) (by omega) ?_
                          refine a_rem rfl rfl rfl rfl rfl (by omega) (by omega) ?_
                          refine s_idxO (sz := 1) 2 rfl rfl rfl rfl rfl rfl rfl (by decide) (by decide) rfl ?_
                          refine s_load rfl rfl rfl rfl rfl rfl rfl ?_
                          refine s_move rfl rfl rfl rfl ?_
                          refine a_add (-9223372036854775808) 9223372036854775807 (by decide) rfl rfl rfl rfl rfl (by omega) (by omega) ?_
                          refine a_rem rfl rfl rfl rfl rfl (by omega) (by omega) ?_
                          refine s_idxO (sz := 1) 3 rfl rfl rfl rfl rfl rfl rfl (by decide) (by decide) rfl ?_
                          refine s_load rfl rfl rfl rfl rfl rfl rfl ?_
                          refine s_move rfl rfl rfl rfl ?_
                          refine a_add (-9223372036854775808) 9223372036854775807 (by decide) rfl rfl rfl rfl rfl (by omega) (by omega) ?_
                          refine a_rem rfl rfl rfl rfl rfl (by omega) (by omega) ?_
                          refine s_idxO (sz := 1) 4 rfl rfl rfl rfl rfl rfl rfl (by decide) (by decide) rfl ?_
                          refine s_load rfl rfl rfl rfl rfl rfl rfl ?_
                          refine s_move rfl rfl rfl rfl ?_
                          refine a_add (-9223372036854775808) 9223372036854775807 (by decide) rfl rfl rfl rfl rfl (by omega) (by omega) ?_
                          refine a_rem rfl rfl rfl rfl rfl (by omega) (by omega) ?_
                          refine s_build rfl rfl rfl rfl rfl (by kernel_rfl) ?_
                          refine s_store rfl rfl rfl rfl rfl rfl rfl (fun w69 sw69 vw69 => ?_)
                          refine vOrd_nil ?_
                          refine Wp.region [0, 1, 2] (by kernel_rfl) (by kernel_rfl) ?_
                          refine s_move rfl rfl rfl rfl ?_
                          refine a_add (-9223372036854775808) 9223372036854775807 (by decide) rfl rfl rfl rfl rfl (by omega) (by omega) ?_
                          refine s_assign rfl rfl rfl rfl ?_
                          refine vOrd_nil ?_
                          have hnx : hAt M (i + 1) = ((x0 + a) % 4294967296, (x1 + b) % 4294967296, (x2 + c) % 4294967296, (x3 + d) % 4294967296, (x4 + e) % 4294967296) := by rw [hAt, blk, hh, hr, addF]
                          exact ⟨_, _, by omega, (St.of_le' (env := [(2, .p 2 _ 0), (3, .v _), (5, .p 5 _ 0), (6, .v _)]) (mem := [(2, _, [_, _, _, _, _]), (5, _, [_, _, _, _, _]), (1003, _, _)]) ⟨rfl, rfl, rfl, rfl, trivial⟩ ⟨rfl, rfl, rfl, trivial⟩), i + 1, _, _, _, _, _, _, rfl, by omega, hnx, by omega, rfl⟩
            · have hi3 : (l.length + 1 + padK l.length + 8) / 64 = i := by omega
              refine vOrd_nil ?_
              refine Wp.condF rfl rfl ?_
              refine Wp.exit ?_
              refine Wp.seq ?_
              refine Wp.region [0, 1] (by kernel_rfl) (by kernel_rfl) ?_
              refine s_load rfl rfl rfl rfl rfl rfl rfl ?_
              refine s_store rfl rfl rfl rfl rfl rfl rfl (fun w70 sw70 vw70 => ?_)
              refine vOrd_nil ?_
              refine Wp.ret ⟨.inr rfl, fun lW => ⟨_, res_cell rfl rfl rfl rfl, _, rfl, ?_, lW⟩⟩
              clear lW
              rw [show shaF l = (x0, x1, x2, x3, x4) by unfold shaF; rw [hM, hM0.1, show l.length + 9 + padK l.length = l.length + 1 + padK l.length + 8 by omega, hi3]; exact hh]
              rfl
end Go.Proofs.YthjgilocbfhffaaDoor
