/-
  The walks of the laws LexLines and LexJoins of layer 10. Of texts and lists of no more than 2^20 bytes.
-/
import Derived.Test.YtknhlpdfdllenaaLexB
namespace Go.Proofs.Ytknhlpdfdllenaa
open Go.RowKit
set_option maxRecDepth 100000

/-- A slice that holds these texts. -/
def StrAt (w : World) (a : Option Addr) (L : List (List UInt8)) : Prop := ∀ j x, L[j]? = some x → ∃ b off, a = some ⟨b, off, none⟩ ∧ w.cell? ⟨b, off + j, none⟩ = some (.string ⟨⟨x⟩⟩)
theorem StrAt.later {w w' : World} {a : Option Addr} {L : List (List UInt8)} (h : StrAt w a L) (l : Later w w') : StrAt w' a L := fun j x hj => by
  obtain ⟨b, off, h1, h2⟩ := h j x hj
  exact ⟨b, off, h1, (World.cell?_of_block (l.block b (World.block_lt_of_cell? w _ h2))).trans h2⟩
theorem own_strs {w : World} {base : Nat} {e : TypeId} {v : Value} {L : List (List UInt8)} (h : w.ownsRow base e 1 v L.length (strsV L)) : ∃ a c, v = .slice a L.length c ∧ StrAt w a L := by
  by_cases h0 : 0 < L.length
  · obtain ⟨g, cap, cs, rfl, _, hv, ht⟩ := own_row h h0
    refine ⟨_, _, rfl, fun j x hj => ⟨g, 0, rfl, ?_⟩⟩
    obtain ⟨t, hg⟩ := hv
    have hlt := (List.getElem?_eq_some_iff.1 hj).1
    rw [Nat.zero_add, cell_of_row w g j _ t (0, 0) hg]
    have : (strsV L)[j]? = some (.string ⟨⟨x⟩⟩) := by simp [strsV, hj]
    rw [← ht, List.getElem?_take_of_lt hlt] at this
    simpa using this
  · obtain ⟨a, c, rfl⟩ := own_slice h
    refine ⟨a, c, rfl, fun j x hj => ?_⟩
    have hlt := (List.getElem?_eq_some_iff.1 hj).1
    omega
theorem get_line {L : List (List UInt8)} {i : Nat} (h : i < L.length) : ∃ x, L[i]? = some x := ⟨L[i], List.getElem?_eq_getElem h⟩
theorem law_lines (l : List UInt8) (hl : l.length ≤ 1048576) (w : World) :
    Calls Try.prog 4 #[.string ⟨⟨l⟩⟩] w fun e w' => ∃ r, e = .returned r ∧ r = .bool true ∧ Below w.heap.size w w' := by
  have hln := lines_len l
  refine calls_Wp (args := [_]) (n := 31) Try.func4 rfl rfl (by simp) ?_
  refine Wp.seq ?_
  refine Wp.region [0] (by kernel_rfl) (by kernel_rfl) ?_
  refine s_assign rfl rfl rfl rfl ?_
  refine vOrd_nil ?_
  refine Wp.seq ?_
  refine Wp.region [0, 1, 2, 3, 4, 5] (by kernel_rfl) (by kernel_rfl) ?_
  refine s_move rfl rfl rfl rfl ?_
  refine s_callT rfl rfl rfl (by kernel_rfl) rfl (lines_any l (by omega) _) ?_
  rintro v w1 hown1 lw1
  obtain ⟨sa, sc, rfl, hS⟩ := own_strs hown1
  refine s_move rfl rfl rfl rfl ?_
  refine s_callT rfl rfl rfl (by kernel_rfl) rfl (reflines_any l (by omega) _) ?_
  rintro v w2 hown2 lw2
  obtain ⟨ta, tc, rfl, hT⟩ := own_strs hown2
  replace hS := hS.later lw2
  refine s_assign rfl rfl rfl rfl ?_
  refine s_assign rfl rfl rfl rfl ?_
  refine vOrd_nil ?_
  refine Wp.seq ?_
  refine Wp.seq ?_
  refine Wp.region [0, 1, 2, 3, 4] (by kernel_rfl) (by kernel_rfl) ?_
  refine s_move rfl rfl rfl rfl ?_
  refine x_len rfl rfl rfl rfl rfl ?_
  refine s_move rfl rfl rfl rfl ?_
  refine x_len rfl rfl rfl rfl rfl ?_
  refine f_neq rfl rfl rfl rfl rfl (by rfl) ?_
  refine vOrd_nil ?_
  refine Wp.condF rfl rfl ?_
  refine Wp.skip ?_
  refine Wp.seq ?_
  refine Wp.seq ?_
  refine Wp.region [0] (by kernel_rfl) (by kernel_rfl) ?_
  refine s_assign rfl rfl rfl rfl ?_
  refine vOrd_nil ?_
  refine Wp.block ?_
  refine Wp.loop (fun k st w1 => ∃ i : Nat, st = St.of [(3, .v (.slice sa (linesL l).length sc)), (4, .v (.slice ta (linesL l).length tc)), (5, .v (.int .i64 (i : Int)))] [] ∧ StrAt w1 sa (linesL l) ∧ StrAt w1 ta (linesL l) ∧ i ≤ (linesL l).length ∧ k = (linesL l).length - i) ?_ ?_
  · exact ⟨_, _, (St.of_le' (env := [(3, .v _), (4, .v _), (5, .v _)]) (mem := []) ⟨rfl, rfl, rfl, trivial⟩ trivial), 0, rfl, hS, hT, by omega, rfl⟩
  · rintro k st w3 ⟨i, rfl, hS, hT, hi, rfl⟩
    refine Wp.seq ?_
    refine Wp.seq ?_
    refine Wp.region [0, 1, 2, 3] (by kernel_rfl) (by kernel_rfl) ?_
    refine s_move rfl rfl rfl rfl ?_
    refine s_move rfl rfl rfl rfl ?_
    refine x_len rfl rfl rfl rfl rfl ?_
    refine p_lss rfl rfl rfl rfl rfl (fun h18 => ?_) (fun h18 => ?_)
    · refine vOrd_nil ?_
      refine Wp.condT rfl rfl ?_
      refine Wp.skip ?_
      refine Wp.seq ?_
      refine Wp.block ?_
      refine Wp.seq ?_
      obtain ⟨x, hx⟩ := get_line (L := linesL l) (i := i) (by omega)
      obtain ⟨b1, o1, ea, _⟩ := hS i x hx
      obtain ⟨b2, o2, eb, _⟩ := hT i x hx
      subst ea eb
      refine (Wp.drawn (by kernel_rfl) (by kernel_rfl) [0, 1, 2, 3, 4, 5, 6, 7, 8] [242, 241, 243, 247, 47, 0, 0, 0, 0] (by kernel_rfl) (by kernel_rfl) (fun _ _ _ => True) (fun wd ld => ?_))
      replace hS := hS.later ld
      replace hT := hT.later ld
      obtain ⟨b1', o1', ea, hc1⟩ := hS i x hx
      obtain ⟨b2', o2', eb, hc2⟩ := hT i x hx
      cases ea
      cases eb
      refine s_move rfl rfl rfl rfl ?_
      refine s_move rfl rfl rfl rfl ?_
      refine s_idx (sz := 1) (o1 + i) rfl rfl rfl rfl rfl rfl rfl (by omega) (by omega) (by omega) ?_
      refine x_ldc rfl rfl rfl rfl rfl hc1 ?_
      refine s_move rfl rfl rfl rfl ?_
      refine s_move rfl rfl rfl rfl ?_
      refine s_idx (sz := 1) (o2 + i) rfl rfl rfl rfl rfl rfl rfl (by omega) (by omega) (by omega) ?_
      refine x_ldc rfl rfl rfl rfl rfl hc2 ?_
      refine b_neF rfl rfl rfl rfl rfl (rfl) ?_
      refine vOrd_nil ?_
      refine Wp.condF rfl rfl ?_
      refine Wp.skip ?_
      refine Wp.region [0, 1, 2] (by kernel_rfl) (by kernel_rfl) ?_
      refine s_move rfl rfl rfl rfl ?_
      refine a_add (-9223372036854775808) 9223372036854775807 (by decide) rfl rfl rfl rfl rfl (by omega) (by omega) ?_
      refine s_assign rfl rfl rfl rfl ?_
      refine vOrd_nil ?_
      exact ⟨_, _, by omega, (St.of_le' (env := [(3, .v _), (4, .v _), (5, .v _)]) (mem := []) ⟨rfl, rfl, rfl, trivial⟩ trivial), i + 1, rfl, hS, hT, by omega, rfl⟩
    · refine vOrd_nil ?_
      refine Wp.condF rfl rfl ?_
      refine Wp.exit ?_
      refine Wp.seq ?_
      refine Wp.region [0, 1] (by kernel_rfl) (by kernel_rfl) ?_
      refine s_callT rfl rfl rfl (by kernel_rfl) rfl (answers_any _) ?_
      rintro v w8 rfl lw8
      refine s_assign rfl rfl rfl rfl ?_
      refine vOrd_nil ?_
      refine Wp.ret ⟨.inr rfl, fun lW => ⟨_, res_tmp (P := Try.prog) rfl rfl, _, rfl, ?_, lW⟩⟩
      clear lW
      rfl
theorem join_take : ∀ (L : List (List UInt8)) (i : Nat), (joinL (L.take i)).length ≤ (joinL L).length
  | [], i => by simp
  | x :: L, 0 => Nat.zero_le _
  | x :: L, i + 1 => by
    have := join_take L i
    rw [List.take_succ_cons, joinL, joinL]
    simp; omega
theorem join_len : ∀ L : List (List UInt8), L.length ≤ (joinL L).length
  | [] => Nat.le_refl _
  | x :: L => by have := join_len L; rw [joinL]; simp; omega
theorem join_mem {x : List UInt8} : ∀ {L : List (List UInt8)} {i : Nat}, L[i]? = some x → x.length ≤ (joinL L).length
  | [], i, h => by simp at h
  | y :: L, 0, h => by simp at h; subst h; rw [joinL]; simp
  | y :: L, i + 1, h => by have := join_mem (by simpa using h); rw [joinL]; simp; omega
theorem join_succ {L : List (List UInt8)} {i : Nat} {x : List UInt8} (h : L[i]? = some x) : joinL (L.take i) ++ x ++ [10] = joinL (L.take (i + 1)) := by
  rw [List.take_add_one, h, join_app]; simp [joinL]
theorem lines_take {L : List (List UInt8)} {x : List UInt8} (hx : L[L.length - 1]? = some x) (h0 : x ≠ []) (hall : ∀ y ∈ L, y.all no10 = true) : linesL ((joinL L).take ((joinL L).length - 1)) = L := by
  have hlt := (List.getElem?_eq_some_iff.1 hx).1
  have e1 : L = L.take (L.length - 1) ++ [x] := by
    have := List.take_add_one (l := L) (i := L.length - 1)
    rw [hx, show L.length - 1 + 1 = L.length by omega, List.take_length] at this
    exact this
  obtain ⟨I, hI⟩ : ∃ I, I = L.take (L.length - 1) := ⟨_, rfl⟩
  rw [← hI] at e1
  have hxa : x.all no10 = true := hall x (List.mem_of_getElem? hx)
  have hIa : ∀ y ∈ I, y.all no10 = true := fun y hy => hall y (by rw [e1]; simp [hy])
  clear hx hlt hall hI
  subst e1
  have e2 : joinL (I ++ [x]) = (joinL I ++ x) ++ [10] := by rw [join_app]; simp [joinL]
  rw [e2]
  have e3 : ((joinL I ++ x) ++ [10]).take (((joinL I ++ x) ++ [10]).length - 1) = joinL I ++ x := by
    rw [List.length_append, List.length_singleton, Nat.add_sub_cancel, List.take_left']
    rfl
  rw [e3, lines_join _ hIa, lines_one hxa h0]
theorem all_next {L : List (List UInt8)} {i : Nat} {x : List UInt8} (h : ∀ y ∈ L.take i, y.all no10 = true) (hx : L[i]? = some x) (hxa : x.all no10 = true) : ∀ y ∈ L.take (i + 1), y.all no10 = true := fun y hy => by
  rw [List.take_add_one, hx, List.mem_append] at hy
  rcases hy with hy | hy
  · exact h y hy
  · simp at hy; subst hy; exact hxa
theorem law_joins (a : Option Addr) (c : Nat) (L : List (List UInt8)) (hlen : (joinL L).length ≤ 1048576) (w : World) (hS : StrAt w a L) :
    Calls Try.prog 5 #[.slice a L.length c] w fun e w' => ∃ r, e = .returned r ∧ r = .bool true ∧ Below w.heap.size w w' := by
  have hLl := join_len L
  refine calls_Wp (args := [_]) (n := 86) Try.func5 rfl rfl (by simp) ?_
  refine Wp.seq ?_
  refine Wp.region [0] (by kernel_rfl) (by kernel_rfl) ?_
  refine s_assign rfl rfl rfl rfl ?_
  refine vOrd_nil ?_
  refine Wp.seq ?_
  refine Wp.region [0] (by kernel_rfl) (by kernel_rfl) ?_
  refine s_assign rfl rfl rfl rfl ?_
  refine vOrd_nil ?_
  refine Wp.seq ?_
  refine Wp.seq ?_
  refine Wp.region [0] (by kernel_rfl) (by kernel_rfl) ?_
  refine s_assign rfl rfl rfl rfl ?_
  refine vOrd_nil ?_
  refine Wp.block ?_
  refine Wp.loop (fun k st _ => ∃ (i : Nat) (S : List UInt8), st = St.of [(0, .v (.slice a L.length c)), (3, .v (.string ⟨⟨S⟩⟩)), (4, .v (.int .i64 (i : Int)))] [] ∧ S = joinL (L.take i) ∧ (∀ y ∈ L.take i, y.all no10 = true) ∧ i ≤ L.length ∧ k = L.length - i) ?_ ?_
  · exact ⟨_, _, (St.of_le' (env := [(0, .v _), (3, .v _), (4, .v _)]) (mem := []) ⟨rfl, rfl, rfl, trivial⟩ trivial), 0, _, rfl, rfl, (fun y hy => by simp at hy), by omega, rfl⟩
  · rintro k st w1 ⟨i, S, rfl, hJ, hall, hi, rfl⟩
    refine Wp.seq ?_
    refine Wp.seq ?_
    refine Wp.region [0, 1, 2, 3] (by kernel_rfl) (by kernel_rfl) ?_
    refine s_move rfl rfl rfl rfl ?_
    refine s_move rfl rfl rfl rfl ?_
    refine x_len rfl rfl rfl rfl rfl ?_
    refine p_lss rfl rfl rfl rfl rfl (fun h12 => ?_) (fun h12 => ?_)
    · obtain ⟨x, hx⟩ := get_line (L := L) (i := i) (by omega)
      have hxl := join_mem hx
      have hjt := join_take L i
      refine vOrd_nil ?_
      refine Wp.condT rfl rfl ?_
      refine Wp.skip ?_
      refine Wp.seq ?_
      refine Wp.block ?_
      refine Wp.seq ?_
      refine Wp.seq ?_
      refine Wp.region [0] (by kernel_rfl) (by kernel_rfl) ?_
      refine s_assign rfl rfl rfl rfl ?_
      refine vOrd_nil ?_
      refine Wp.block ?_
      refine Wp.loop (fun k st _ => ∃ (j : Nat), st = St.of [(0, .v (.slice a L.length c)), (3, .v (.string ⟨⟨S⟩⟩)), (4, .v (.int .i64 (i : Int))), (5, .v (.int .i64 (j : Int)))] [] ∧ (x.take j).all no10 = true ∧ j ≤ x.length ∧ k = x.length - j) ?_ ?_
      · exact ⟨_, _, (St.of_le' (env := [(0, .v _), (3, .v _), (4, .v _), (5, .v _)]) (mem := []) ⟨rfl, rfl, rfl, rfl, trivial⟩ trivial), 0, rfl, rfl, by omega, rfl⟩
      · rintro k st w2 ⟨j, rfl, hxj, hj, rfl⟩
        refine Wp.seq ?_
        refine Wp.seq ?_
        refine Wp.old (fun lo => ?_)
        obtain ⟨b1, o1, ea, hc1⟩ := (hS.later lo) i x hx
        cases ea
        refine Wp.region [0, 1, 2, 3, 4, 5, 6] (by kernel_rfl) (by kernel_rfl) ?_
        refine s_move rfl rfl rfl rfl ?_
        refine s_move rfl rfl rfl rfl ?_
        refine s_move rfl rfl rfl rfl ?_
        refine s_idx (sz := 1) (o1 + i) rfl rfl rfl rfl rfl rfl rfl (by omega) (by omega) (by omega) ?_
        refine x_ldc rfl rfl rfl rfl rfl hc1 ?_
        refine b_len rfl rfl rfl rfl rfl ?_
        refine p_lss rfl rfl rfl rfl rfl (fun h21 => ?_) (fun h21 => ?_)
        · obtain ⟨cj, hcj⟩ := get_some (l := x) (i := j) (by omega)
          refine vOrd_nil ?_
          refine Wp.condT rfl rfl ?_
          refine Wp.skip ?_
          refine Wp.seq ?_
          refine Wp.block ?_
          refine Wp.seq ?_
          refine Wp.old (fun lo => ?_)
          obtain ⟨b1, o1, ea, hc1⟩ := (hS.later lo) i x hx
          cases ea
          refine Wp.region [0, 1, 2, 3, 4, 5, 6] (by kernel_rfl) (by kernel_rfl) ?_
          refine s_move rfl rfl rfl rfl ?_
          refine s_move rfl rfl rfl rfl ?_
          refine s_idx (sz := 1) (o1 + i) rfl rfl rfl rfl rfl rfl rfl (by omega) (by omega) (by omega) ?_
          refine x_ldc rfl rfl rfl rfl rfl hc1 ?_
          refine s_move rfl rfl rfl rfl ?_
          refine b_byte rfl rfl rfl rfl rfl rfl (by omega) (hcj) ?_
          refine p_eql rfl rfl rfl rfl rfl (fun h30 => ?_) (fun h30 => ?_)
          · refine vOrd_nil ?_
            refine Wp.condT rfl rfl ?_
            refine Wp.seq ?_
            refine Wp.region [0, 1] (by kernel_rfl) (by kernel_rfl) ?_
            refine s_callT rfl rfl rfl (by kernel_rfl) rfl (answers_any _) ?_
            rintro v w7 rfl lw7
            refine s_assign rfl rfl rfl rfl ?_
            refine vOrd_nil ?_
            refine Wp.ret ⟨.inr rfl, fun lW => ⟨_, res_tmp (P := Try.prog) rfl rfl, _, rfl, ?_, lW⟩⟩
            clear lW
            rfl
          · refine vOrd_nil ?_
            refine Wp.condF rfl rfl ?_
            refine Wp.skip ?_
            refine Wp.region [0, 1, 2] (by kernel_rfl) (by kernel_rfl) ?_
            refine s_move rfl rfl rfl rfl ?_
            refine a_add (-9223372036854775808) 9223372036854775807 (by decide) rfl rfl rfl rfl rfl (by omega) (by omega) ?_
            refine s_assign rfl rfl rfl rfl ?_
            refine vOrd_nil ?_
            exact ⟨_, _, by omega, (St.of_le' (env := [(0, .v _), (3, .v _), (4, .v _), (5, .v _)]) (mem := []) ⟨rfl, rfl, rfl, rfl, trivial⟩ trivial), j + 1, rfl, all_snoc hxj hcj (by simp [no10]; omega), by omega, rfl⟩
        · have hxa : x.all no10 = true := by rw [show j = x.length by omega, List.take_length] at hxj; exact hxj
          refine vOrd_nil ?_
          refine Wp.condF rfl rfl ?_
          refine Wp.exit ?_
          refine Wp.old (fun lo => ?_)
          obtain ⟨b1, o1, ea, hc1⟩ := (hS.later lo) i x hx
          cases ea
          refine Wp.region [0, 1, 2, 3, 4, 5, 6, 7] (by kernel_rfl) (by kernel_rfl) ?_
          refine s_move rfl rfl rfl rfl ?_
          refine s_move rfl rfl rfl rfl ?_
          refine s_move rfl rfl rfl rfl ?_
          refine s_idx (sz := 1) (o1 + i) rfl rfl rfl rfl rfl rfl rfl (by omega) (by omega) (by omega) ?_
          refine x_ldc rfl rfl rfl rfl rfl hc1 ?_
          refine b_cat rfl rfl rfl rfl rfl (by rw [hJ]; omega) ?_
          refine b_cat rfl rfl rfl rfl rfl (by rw [hJ]; simp; omega) ?_
          refine s_assign rfl rfl rfl rfl ?_
          refine vOrd_nil ?_
          refine Wp.region [0, 1, 2] (by kernel_rfl) (by kernel_rfl) ?_
          refine s_move rfl rfl rfl rfl ?_
          refine a_add (-9223372036854775808) 9223372036854775807 (by decide) rfl rfl rfl rfl rfl (by omega) (by omega) ?_
          refine s_assign rfl rfl rfl rfl ?_
          refine vOrd_nil ?_
          exact ⟨_, _, by omega, (St.of_le' (env := [(0, .v _), (3, .v _), (4, .v _)]) (mem := []) ⟨rfl, rfl, rfl, trivial⟩ trivial), i + 1, _, rfl, by rw [hJ]; exact join_succ hx, all_next hall hx hxa, by omega, rfl⟩
    · have hin : i = L.length := by omega
      subst hin
      rw [List.take_length] at hJ hall
      subst hJ
      have hlj : linesL (joinL L) = L := by have := lines_join [] hall; simpa [linesL] using this
      refine vOrd_nil ?_
      refine Wp.condF rfl rfl ?_
      refine Wp.exit ?_
      refine Wp.seq ?_
      refine Wp.region [0, 1, 2] (by kernel_rfl) (by kernel_rfl) ?_
      refine s_move rfl rfl rfl rfl ?_
      refine s_callT rfl rfl rfl (by kernel_rfl) rfl (lines_any (joinL L) (by omega) _) ?_
      rintro v w10 hown lw10
      rw [hlj] at hown
      obtain ⟨ta, tc, rfl, hT⟩ := own_strs hown
      refine s_assign rfl rfl rfl rfl ?_
      refine vOrd_nil ?_
      refine Wp.seq ?_
      refine Wp.seq ?_
      refine Wp.region [0, 1, 2, 3, 4] (by kernel_rfl) (by kernel_rfl) ?_
      refine s_move rfl rfl rfl rfl ?_
      refine x_len rfl rfl rfl rfl rfl ?_
      refine s_move rfl rfl rfl rfl ?_
      refine x_len rfl rfl rfl rfl rfl ?_
      refine f_neq rfl rfl rfl rfl rfl (by rfl) ?_
      refine vOrd_nil ?_
      refine Wp.condF rfl rfl ?_
      refine Wp.skip ?_
      refine Wp.seq ?_
      refine Wp.seq ?_
      refine Wp.region [0] (by kernel_rfl) (by kernel_rfl) ?_
      refine s_assign rfl rfl rfl rfl ?_
      refine vOrd_nil ?_
      refine Wp.block ?_
      refine Wp.loop (fun k st w1 => ∃ i : Nat, st = St.of [(0, .v (.slice a L.length c)), (3, .v (.string ⟨⟨joinL L⟩⟩)), (6, .v (.slice ta L.length tc)), (7, .v (.int .i64 (i : Int)))] [] ∧ StrAt w1 ta L ∧ i ≤ L.length ∧ k = L.length - i) ?_ ?_
      · exact ⟨_, _, (St.of_le' (env := [(0, .v _), (3, .v _), (6, .v _), (7, .v _)]) (mem := []) ⟨rfl, rfl, rfl, rfl, trivial⟩ trivial), 0, rfl, hT, by omega, rfl⟩
      · rintro k st w11 ⟨i, rfl, hT, hi2, rfl⟩
        refine Wp.seq ?_
        refine Wp.seq ?_
        refine Wp.region [0, 1, 2, 3] (by kernel_rfl) (by kernel_rfl) ?_
        refine s_move rfl rfl rfl rfl ?_
        refine s_move rfl rfl rfl rfl ?_
        refine x_len rfl rfl rfl rfl rfl ?_
        refine p_lss rfl rfl rfl rfl rfl (fun h49 => ?_) (fun h49 => ?_)
        · refine vOrd_nil ?_
          refine Wp.condT rfl rfl ?_
          refine Wp.skip ?_
          refine Wp.seq ?_
          refine Wp.block ?_
          refine Wp.seq ?_
          refine Wp.old (fun lo => ?_)
          obtain ⟨x, hx⟩ := get_line (L := L) (i := i) (by omega)
          obtain ⟨b1, o1, ea, _⟩ := hT i x hx
          obtain ⟨b2, o2, eb, _⟩ := hS i x hx
          subst ea eb
          refine (Wp.drawn (by kernel_rfl) (by kernel_rfl) [0, 1, 2, 3, 4, 5, 6, 7, 8] [242, 241, 243, 247, 47, 0, 0, 0, 0] (by kernel_rfl) (by kernel_rfl) (fun _ _ _ => True) (fun wd ld => ?_))
          replace hT := hT.later ld
          have hS2 := (hS.later lo).later ld
          obtain ⟨b1', o1', ea, hc1⟩ := hT i x hx
          obtain ⟨b2', o2', eb, hc2⟩ := hS2 i x hx
          cases ea
          cases eb
          refine s_move rfl rfl rfl rfl ?_
          refine s_move rfl rfl rfl rfl ?_
          refine s_idx (sz := 1) (o1 + i) rfl rfl rfl rfl rfl rfl rfl (by omega) (by omega) (by omega) ?_
          refine x_ldc rfl rfl rfl rfl rfl hc1 ?_
          refine s_move rfl rfl rfl rfl ?_
          refine s_move rfl rfl rfl rfl ?_
          refine s_idx (sz := 1) (o2 + i) rfl rfl rfl rfl rfl rfl rfl (by omega) (by omega) (by omega) ?_
          refine x_ldc rfl rfl rfl rfl rfl hc2 ?_
          refine b_neF rfl rfl rfl rfl rfl (rfl) ?_
          refine vOrd_nil ?_
          refine Wp.condF rfl rfl ?_
          refine Wp.skip ?_
          refine Wp.region [0, 1, 2] (by kernel_rfl) (by kernel_rfl) ?_
          refine s_move rfl rfl rfl rfl ?_
          refine a_add (-9223372036854775808) 9223372036854775807 (by decide) rfl rfl rfl rfl rfl (by omega) (by omega) ?_
          refine s_assign rfl rfl rfl rfl ?_
          refine vOrd_nil ?_
          exact ⟨_, _, by omega, (St.of_le' (env := [(0, .v _), (3, .v _), (6, .v _), (7, .v _)]) (mem := []) ⟨rfl, rfl, rfl, rfl, trivial⟩ trivial), i + 1, rfl, hT, by omega, rfl⟩
        · refine vOrd_nil ?_
          refine Wp.condF rfl rfl ?_
          refine Wp.exit ?_
          refine Wp.seq ?_
          refine Wp.region [0, 1, 2] (by kernel_rfl) (by kernel_rfl) ?_
          refine s_move rfl rfl rfl rfl ?_
          refine x_len rfl rfl rfl rfl rfl ?_
          refine s_assign rfl rfl rfl rfl ?_
          refine vOrd_nil ?_
          refine Wp.seq ?_
          refine Wp.seq ?_
          refine Wp.old (fun lo20 => ?_)
          refine Wp.region [0, 1, 2, 3, 4, 5, 6, 7, 8, 9] (by kernel_rfl) (by kernel_rfl) ?_
          refine s_move rfl rfl rfl rfl ?_
          refine p_eql rfl rfl rfl rfl rfl (fun h64 => ?_) (fun h64 => ?_)
          · refine s_move rfl rfl rfl rfl ?_
            refine s_skip rfl rfl rfl ?_
            refine s_skip rfl rfl rfl ?_
            refine s_skip rfl rfl rfl ?_
            refine s_skip rfl rfl rfl ?_
            refine s_skip rfl rfl rfl ?_
            refine s_skip rfl rfl rfl ?_
            refine s_pick rfl rfl rfl rfl rfl ?_
            refine vOrd_nil ?_
            refine Wp.condT rfl rfl ?_
            refine Wp.seq ?_
            refine Wp.region [0, 1] (by kernel_rfl) (by kernel_rfl) ?_
            refine s_callT rfl rfl rfl (by kernel_rfl) rfl (answers_any _) ?_
            rintro v w16 rfl lw16
            refine s_assign rfl rfl rfl rfl ?_
            refine vOrd_nil ?_
            refine Wp.ret ⟨.inr rfl, fun lW => ⟨_, res_tmp (P := Try.prog) rfl rfl, _, rfl, ?_, lW⟩⟩
            clear lW
            rfl
          · obtain ⟨x, hx⟩ := get_line (L := L) (i := L.length - 1) (by omega)
            obtain ⟨b1, o1, ea, hc1⟩ := (hS.later lo20) (L.length - 1) x hx
            subst ea
            refine s_move rfl rfl rfl rfl ?_
            refine s_move rfl rfl rfl rfl ?_
            refine s_move rfl rfl rfl rfl ?_
            refine a_sub (-9223372036854775808) 9223372036854775807 (by decide) rfl rfl rfl rfl rfl (by omega) (by omega) ?_
            refine s_idx (sz := 1) (o1 + (L.length - 1)) rfl rfl rfl rfl rfl rfl rfl (by omega) (by omega) (by omega) ?_
            refine x_ldc rfl rfl rfl rfl rfl hc1 ?_
            refine b_eq rfl rfl rfl rfl rfl (fun h71 => ?_) (fun h71 => ?_)
            · refine s_pick rfl rfl rfl rfl rfl ?_
              refine vOrd_nil ?_
              refine Wp.condT rfl rfl ?_
              refine Wp.seq ?_
              refine Wp.region [0, 1] (by kernel_rfl) (by kernel_rfl) ?_
              refine s_callT rfl rfl rfl (by kernel_rfl) rfl (answers_any _) ?_
              rintro v w19 rfl lw19
              refine s_assign rfl rfl rfl rfl ?_
              refine vOrd_nil ?_
              refine Wp.ret ⟨.inr rfl, fun lW => ⟨_, res_tmp (P := Try.prog) rfl rfl, _, rfl, ?_, lW⟩⟩
              clear lW
              rfl
            · refine s_pick rfl rfl rfl rfl rfl ?_
              refine vOrd_nil ?_
              refine Wp.condF rfl rfl ?_
              refine Wp.skip ?_
              refine Wp.seq ?_
              have hne : 0 < (joinL L).length := by omega
              have hlt := lines_take hx h71 hall
              have htn : (((joinL L).length : Int) - 1).toNat = (joinL L).length - 1 := by omega
              refine Wp.region [0, 1, 2, 3, 4, 5, 6, 7, 8, 9, 10, 11, 12] (by kernel_rfl) (by kernel_rfl) ?_
              refine s_callT rfl rfl rfl (by kernel_rfl) rfl (answers_any _) ?_
              rintro v w20 rfl lw20
              refine s_move rfl rfl rfl rfl ?_
              refine s_move rfl rfl rfl rfl ?_
              refine s_move rfl rfl rfl rfl ?_
              refine b_len rfl rfl rfl rfl rfl ?_
              refine a_sub (-9223372036854775808) 9223372036854775807 (by decide) rfl rfl rfl rfl rfl (by omega) (by omega) ?_
              refine b_to rfl rfl rfl rfl rfl rfl (by omega) (by omega) ?_
              rw [htn]
              refine s_callT rfl rfl rfl (by kernel_rfl) rfl (lines_any ((joinL L).take ((joinL L).length - 1)) (by rw [List.length_take]; omega) _) ?_
              rintro v w23 hown3 lw23
              rw [hlt] at hown3
              obtain ⟨ua, uc, rfl⟩ := own_slice hown3
              refine x_len rfl rfl rfl rfl rfl ?_
              refine s_move rfl rfl rfl rfl ?_
              refine t_eql rfl rfl rfl rfl rfl (by rfl) ?_
              refine s_pick rfl rfl rfl rfl rfl ?_
              refine s_assign rfl rfl rfl rfl ?_
              refine vOrd_nil ?_
              refine Wp.ret ⟨.inr rfl, fun lW => ⟨_, res_tmp (P := Try.prog) rfl rfl, _, rfl, ?_, lW⟩⟩
              clear lW
              rfl
end Go.Proofs.Ytknhlpdfdllenaa
