/-
  Leap second files: the walk of the law ListNotes of layer 11.
-/
import Derived.Test.YthjgilocbfhffaaDoorListC
import Derived.Test.YthjgilocbfhffaaDoorListK
namespace Go.Proofs.YthjgilocbfhffaaDoor
open Go.RowKit
set_option maxRecDepth 100000

theorem all_no10 {m : List UInt8} (h : ∀ j b, j < m.length → m[j]? = some b → (b.toNat : Int) ≠ 10) : m.all no10 = true := by
  rw [List.all_eq_true]
  intro b hb
  obtain ⟨j, hj, rfl⟩ := List.getElem_of_mem hb
  have h1 := h j _ hj (List.getElem?_eq_getElem hj)
  unfold no10
  rw [decide_eq_false (by omega)]
  rfl
theorem strs_get {L : List (List UInt8)} {j : Nat} {x : List UInt8} (h : L[j]? = some x) : (strsV L)[j]? = some (.string ⟨⟨x⟩⟩) := by simp [strsV, h]
set_option maxHeartbeats 4000000 in
theorem law_listnotes (t : Tb) (hu : I64 t.u) (he : I64 t.e) {v : Value} {w : World} (hv : EntAt w v t.es) (hT : Tab w) (m : List UInt8) (M N : Nat) (hM0 : M < 256) (hN0 : N < 256) : Calls Tryd.prog 7 #[tbV t v, .string ⟨⟨m⟩⟩, .int .u8 (M : Int), .int .u8 (N : Int)] w fun e w' => ∃ r, e = .returned r ∧ r = .bool true ∧ Below w.heap.size w w' := by
  obtain ⟨va, vc, rfl, ht⟩ := tb_form hv
  rw [ht]
  have hfl := file_length t
  cases hb : canBe t with
  | true =>
    have hpl := print_len hb
    have hl64 := can_len hb
    have hpos := (can_num hb).2.2
    refine calls_Wp (args := [_, _, _, _]) (n := 130) Tryd.func7 rfl rfl (by simp) ?_
    refine Wp.seq ?_
    refine Wp.region [0, 1] (by kernel_rfl) (by kernel_rfl) ?_
    refine s_box rfl rfl rfl rfl rfl rfl (fun bk1 w1 kb1 lw1 => ?_)
    try have k4hv2 := fun w1 w2 => EntAt.apart hv2 kb1 (w1 := w1) (w2 := w2)
    try replace hv2 := hv2.later lw1
    try have k4hq := fun w1 w2 => EntAt.apart hq kb1 (w1 := w1) (w2 := w2)
    try replace hq := hq.later lw1
    refine s_assign rfl rfl rfl rfl ?_
    refine vOrd_nil ?_
    refine Wp.seq ?_
    refine Wp.seq ?_
    refine Wp.old (fun lv => ?_)
    have hv1 := hv.later lv
    clear lv
    refine Wp.old (fun lo => ?_)
    have tb := hT.later lo
    clear lo
    refine Wp.region [0, 1, 2, 3, 4, 5, 6] (by kernel_rfl) (by kernel_rfl) ?_
    refine s_load rfl rfl rfl rfl rfl rfl rfl ?_
    refine s_callT rfl rfl rfl (by kernel_rfl) rfl (rtable_yes hb hu he hv1) ?_
    rintro v w2 rfl lw2
    replace tb := tb.later lw2
    try replace hv2 := hv2.later lw2
    try replace hq := hq.later lw2
    refine s_move rfl rfl rfl rfl ?_
    refine s_extract rfl rfl rfl rfl rfl ?_
    refine s_extract rfl rfl rfl rfl rfl ?_
    refine s_assign rfl rfl rfl rfl ?_
    refine s_assign rfl rfl rfl rfl ?_
    refine vOrd_nil ?_
    refine Wp.seq ?_
    refine Wp.old (fun lo => ?_)
    have tb := hT.later lo
    clear lo
    refine Wp.region [0, 1, 2, 3, 4, 5, 6] (by kernel_rfl) (by kernel_rfl) ?_
    refine s_move rfl rfl rfl rfl ?_
    refine s_not rfl rfl rfl rfl ?_
    refine s_move rfl rfl rfl rfl ?_
    refine s_move rfl rfl rfl rfl ?_
    refine b_len rfl rfl rfl rfl rfl ?_
    refine p_gtr rfl rfl rfl rfl rfl (fun h31 => ?_) (fun h31 => ?_)
    · refine s_pick rfl rfl rfl rfl rfl ?_
      refine vOrd_nil ?_
      refine Wp.condT rfl rfl ?_
      refine Wp.seq ?_
      refine Wp.old (fun lo => ?_)
      have tb := hT.later lo
      clear lo
      refine Wp.region [0, 1] (by kernel_rfl) (by kernel_rfl) ?_
      refine s_callT rfl rfl rfl (by kernel_rfl) rfl (lanswers_any tb) ?_
      rintro v w3 rfl lw3
      replace tb := tb.later lw3
      try replace hv2 := hv2.later lw3
      try replace hq := hq.later lw3
      refine s_assign rfl rfl rfl rfl ?_
      refine vOrd_nil ?_
      refine Wp.ret ⟨.inr rfl, fun lW => ⟨_, res_tmp (P := Tryd.prog) rfl rfl, _, rfl, ?_, lW⟩⟩
      clear lW
      rfl
    · have hml : m.length ≤ 100 := by omega
      refine s_pick rfl rfl rfl rfl rfl ?_
      refine vOrd_nil ?_
      refine Wp.condF rfl rfl ?_
      refine Wp.skip ?_
      refine Wp.seq ?_
      refine Wp.seq ?_
      refine Wp.region [0] (by kernel_rfl) (by kernel_rfl) ?_
      refine s_assign rfl rfl rfl rfl ?_
      refine vOrd_nil ?_
      refine Wp.block ?_
      refine Wp.loop (fun kk st _ => ∃ (i : Nat), st = St.of [(1, .v (.string ⟨⟨m⟩⟩)), (2, .v (.int .u8 (M : Int))), (3, .v (.int .u8 (N : Int))), (4, .p 4 bk1 0), (11, .v (.int .i64 (i : Int)))] [(4, bk1, [.int .i64 t.u, .int .i64 t.e, .slice va t.es.length vc])] ∧ i ≤ m.length ∧ (∀ j b, j < i → m[j]? = some b → (b.toNat : Int) ≠ 10) ∧ kk = m.length - i) ?_ ?_
      · exact ⟨_, _, (St.of_le' (env := [(1, .v _), (2, .v _), (3, .v _), (4, .p 4 _ 0), (11, .v _)]) (mem := [(4, _, [_, _, _])]) ⟨rfl, rfl, rfl, rfl, rfl, trivial⟩ ⟨rfl, trivial⟩), 0, rfl, Nat.zero_le _, fun j b hj => by omega, rfl⟩
      · rintro k st w4 ⟨i, rfl, hi, hno, rfl⟩
        refine Wp.seq ?_
        refine Wp.seq ?_
        refine Wp.old (fun lo => ?_)
        have tb := hT.later lo
        clear lo
        refine Wp.region [0, 1, 2, 3] (by kernel_rfl) (by kernel_rfl) ?_
        refine s_move rfl rfl rfl rfl ?_
        refine s_move rfl rfl rfl rfl ?_
        refine b_len rfl rfl rfl rfl rfl ?_
        refine p_lss rfl rfl rfl rfl rfl (fun h37 => ?_) (fun h37 => ?_)
        · obtain ⟨b, hbi⟩ : ∃ b, m[i]? = some b := ⟨_, List.getElem?_eq_getElem (by omega)⟩
          refine vOrd_nil ?_
          refine Wp.condT rfl rfl ?_
          refine Wp.skip ?_
          refine Wp.seq ?_
          refine Wp.block ?_
          refine Wp.seq ?_
          refine Wp.region [0, 1, 2, 3] (by kernel_rfl) (by kernel_rfl) ?_
          refine s_move rfl rfl rfl rfl ?_
          refine s_move rfl rfl rfl rfl ?_
          refine b_byte rfl rfl rfl rfl rfl rfl (by omega) (hbi) ?_
          refine p_eql rfl rfl rfl rfl rfl (fun h43 => ?_) (fun h43 => ?_)
          · refine vOrd_nil ?_
            refine Wp.condT rfl rfl ?_
            refine Wp.seq ?_
            refine Wp.old (fun lo => ?_)
            have tb := hT.later lo
            clear lo
            refine Wp.region [0, 1] (by kernel_rfl) (by kernel_rfl) ?_
            refine s_callT rfl rfl rfl (by kernel_rfl) rfl (lanswers_any tb) ?_
            rintro v w5 rfl lw5
            replace tb := tb.later lw5
            try replace hv2 := hv2.later lw5
            try replace hq := hq.later lw5
            refine s_assign rfl rfl rfl rfl ?_
            refine vOrd_nil ?_
            refine Wp.ret ⟨.inr rfl, fun lW => ⟨_, res_tmp (P := Tryd.prog) rfl rfl, _, rfl, ?_, lW⟩⟩
            clear lW
            rfl
          · refine vOrd_nil ?_
            refine Wp.condF rfl rfl ?_
            refine Wp.skip ?_
            refine Wp.region [0, 1, 2] (by kernel_rfl) (by kernel_rfl) ?_
            refine s_move rfl rfl rfl rfl ?_
            refine a_add (-9223372036854775808) 9223372036854775807 (by decide) rfl rfl rfl rfl rfl (by omega) (by omega) ?_
            refine s_assign rfl rfl rfl rfl ?_
            refine vOrd_nil ?_
            exact ⟨_, _, by omega, (St.of_le' (env := [(1, .v _), (2, .v _), (3, .v _), (4, .p 4 _ 0), (11, .v _)]) (mem := [(4, _, [_, _, _])]) ⟨rfl, rfl, rfl, rfl, rfl, trivial⟩ ⟨rfl, trivial⟩), i + 1, rfl, by omega, fun j b hj hjb => by rcases Nat.lt_or_ge j i with q | q; exact hno j b q hjb; rw [show j = i by omega, hbi] at hjb; cases hjb; exact h43, rfl⟩
        · have hm10 := all_no10 (m := m) (fun j b hj => hno j b (by omega))
          refine vOrd_nil ?_
          refine Wp.condF rfl rfl ?_
          refine Wp.exit ?_
          refine Wp.seq ?_
          refine Wp.old (fun lv => ?_)
          have hv1 := hv.later lv
          clear lv
          refine Wp.old (fun lo => ?_)
          have tb := hT.later lo
          clear lo
          refine Wp.region [0, 1, 2, 3] (by kernel_rfl) (by kernel_rfl) ?_
          refine s_load rfl rfl rfl rfl rfl rfl rfl ?_
          refine s_callT rfl rfl rfl (by kernel_rfl) rfl (rprint_any t hb hu he hv1) ?_
          rintro v w6 rfl lw6
          replace tb := tb.later lw6
          try replace hv2 := hv2.later lw6
          try replace hq := hq.later lw6
          refine s_callT rfl rfl rfl (by kernel_rfl) rfl (reflines_any (printL t) (by omega) _) ?_
          rintro v w7 hls lw7
          replace tb := tb.later lw7
          try replace hv2 := hv2.later lw7
          try replace hq := hq.later lw7
          rw [lines_file t] at hls
          obtain ⟨lg, lcap, lcs, rfl, hlg, hlc, hvl, htk⟩ := own_row' hls (by omega)
          clear hls hlg
          refine s_assign rfl rfl rfl rfl ?_
          refine vOrd_nil ?_
          refine Wp.seq ?_
          refine Wp.old (fun lo => ?_)
          have tb := hT.later lo
          clear lo
          refine Wp.region [0, 1, 2, 3, 4, 5] (by kernel_rfl) (by kernel_rfl) ?_
          refine s_move rfl rfl rfl rfl ?_
          refine a_conv (-9223372036854775808) 9223372036854775807 (by decide) rfl rfl rfl rfl rfl rfl (by omega) (by omega) ?_
          refine s_move rfl rfl rfl rfl ?_
          refine x_len rfl rfl rfl rfl rfl ?_
          refine a_rem rfl rfl rfl rfl rfl (by omega) (by omega) ?_
          rw [← Int.natCast_emod]
          obtain ⟨k, hk⟩ : ∃ k, k = N % (fileL t).length := ⟨_, rfl⟩
          rw [← hk]
          have hklt : k < (fileL t).length := by rw [hk]; exact Nat.mod_lt _ (by omega)
          obtain ⟨x, hx⟩ := get_line hklt
          refine s_assign rfl rfl rfl rfl ?_
          refine vOrd_nil ?_
          refine Wp.mid (fun st W => ∃ (g cap : Nat) (cs : List Value), st = St.of [(1, .v (.string ⟨⟨m⟩⟩)), (2, .v (.int .u8 (M : Int))), (4, .p 4 bk1 0), (12, .v (.slice (some ⟨lg, 0, none⟩) (fileL t).length lcap)), (13, .v (.int .i64 (k : Int))), (14, .v (.slice (some ⟨g, 0, none⟩) (fileL t).length cap))] [(4, bk1, [.int .i64 t.u, .int .i64 t.e, .slice va t.es.length vc])] ∧ Var W g cs ∧ cs.take (fileL t).length = strsV (x :: ((fileL t).take k ++ (fileL t).drop (k + 1))) ∧ Var W lg lcs) ?_ ?_
          · refine Wp.old (fun lo11 => ?_)
            refine Wp.var (h := 4) rfl (fun hq4 => ?_)
            refine Wp.old (fun lo => ?_)
            have tb := hT.later lo
            clear lo
            refine Wp.drawnX (by kernel_rfl) (by kernel_rfl) (by kernel_rfl) [0, 1, 2, 6, 7, 8, 10, 11, 12, 13] 7 #[true, true, true, false, false, false, true, true, true, false, true, true, true, true, false, false, false] rfl (by kernel_rfl) (by kernel_rfl) (fun wd ld => ?_)
            try replace hv2 := hv2.later ld
            try replace hq := hq.later ld
            replace hvl := hvl.later ld
            obtain ⟨B0, hB0⟩ : ∃ B0, B0 = wd.heap.size := ⟨_, rfl⟩
            have hbz : B0 ≤ wd.heap.size := by omega
            have hlB : lg < B0 := by have := hvl.lt; omega
            have hbB : bk1 < B0 := by have := (hq4.later ld).lt; omega
            have hwB : w.heap.size ≤ B0 := by have := lo11.size; have := ld.size; omega
            clear hq4 lo11 hB0
            refine s_move rfl rfl rfl rfl ?_
            refine s_move rfl rfl rfl rfl ?_
            refine s_idx (sz := 1) k rfl rfl rfl rfl rfl rfl rfl (by omega) (by omega) (by omega) ?_
            refine s_move rfl rfl rfl rfl ?_
            refine s_move rfl rfl rfl rfl ?_
            refine x_to (sz := 1) rfl rfl rfl rfl rfl rfl rfl (by omega) (by omega) ?_
            refine s_move rfl rfl rfl rfl ?_
            refine s_move rfl rfl rfl rfl ?_
            refine a_add (-9223372036854775808) 9223372036854775807 (by decide) rfl rfl rfl rfl rfl (by omega) (by omega) ?_
            refine x_from (sz := 1) rfl rfl rfl rfl rfl rfl rfl (by omega) (by omega) (by omega) ?_
            intro off13 hoff13
            refine vOrd_nil ?_
            refine vTree_two (i := 3) (k := 5) (L1 := #[true, true, true, true, false, false, true, true, true, false, true, true, true, true, false, false, false]) (L2 := #[true, true, true, false, false, true, true, true, true, false, true, true, true, true, false, false, false]) (by kernel_rfl) (by kernel_rfl) (by kernel_rfl) ?_ ?_
            · refine x_ldc rfl rfl rfl rfl rfl (row_cell hvl htk (strs_get hx)) ?_
              refine vOrd_nil ?_
              refine vTree_two (i := 4) (k := 5) (L1 := #[true, true, true, true, true, false, true, true, true, false, true, true, true, true, false, false, false]) (L2 := #[true, true, true, true, false, true, true, true, true, false, true, true, true, true, false, false, false]) (by kernel_rfl) (by kernel_rfl) (by kernel_rfl) ?_ ?_
              · refine s_bs (e := 9) (cs := [.string ⟨⟨x⟩⟩]) rfl rfl rfl (fun _ => by kernel_rfl) ?_
                intro c1 w4 hc1 lw4 hrow4
                have hA := own_of_row (base := B0) (n := 1) (sz := 1) hrow4 (by omega) rfl (by decide)
                clear hrow4
                try have hne := own_ne hN (b := c1) (.inr hc1)
                try replace hN := own_later hN lw4
                replace hvl := hvl.later lw4
                replace hbz := Nat.le_trans hbz lw4.size
                refine vOrd_nil ?_
                refine vTree_one (i := 5) (L := #[true, true, true, true, true, true, true, true, true, false, true, true, true, true, false, false, false]) (by kernel_rfl) (by kernel_rfl) ?_
                refine s_bs (e := 9) (cs := []) rfl rfl rfl (fun _ => by kernel_rfl) ?_
                intro c2 w5 hc2 lw5 hrow5
                have hN := own_of_row (base := B0) (n := 0) (sz := 1) hrow5 (by omega) rfl (by decide)
                clear hrow5
                try have hne : Value.ownBlock (.slice (some ⟨c2, 0, none⟩) 0 0) ≠ some c1 := by have := (hA.lt c1 rfl).2; simp only [Value.ownBlock, ne_eq, Option.some.injEq]; omega
                try replace hA := own_later hA lw5
                replace hvl := hvl.later lw5
                replace hbz := Nat.le_trans hbz lw5.size
                refine vOrd_nil ?_
                refine vTree_one (i := 9) (L := #[true, true, true, true, true, true, true, true, true, true, true, true, true, true, false, false, false]) (by kernel_rfl) (by kernel_rfl) ?_
                refine x_appendS (bs := 16) (n' := k) (xs' := strsV ((fileL t).take k)) (news := strsV ((fileL t).take k)) rfl rfl rfl rfl rfl rfl rfl rfl rfl rfl rfl hN (by rw [strsV_len, List.length_take]; omega) (fun j y hj => by rw [Nat.zero_add]; obtain ⟨z, hz, rfl⟩ := strs_at hj; have hz1 := (List.getElem?_eq_some_iff.1 hz).1; rw [List.length_take] at hz1; rw [List.getElem?_take_of_lt (by omega)] at hz; exact row_cell hvl htk (by simp [strsV, hz])) (strs_one _) (by omega) (List.nil_append _) (by omega) (by decide) hbz hwB (by (repeat with_reducible refine AllMem.put ?_); exact AllMem.of ⟨own_ne hN (.inl hbB), trivial⟩) (fun v9 w9 hN9 gr9 at9 => ?_)
                replace hvl := hvl.grown gr9 (Ne.symm (own_ne hN (.inl hlB)))
                try have hne9 := own_at_ne at9 hne (hA.lt c1 rfl).2
                try replace hA := hA.kept gr9 (.inr (Ne.symm hne))
                try replace hne := hne9
                replace hN := hN9
                replace hbz := Nat.le_trans hbz gr9.size
                refine vOrd_nil ?_
                refine vTree_one (i := 14) (L := #[true, true, true, true, true, true, true, true, true, true, true, true, true, true, true, false, false]) (by kernel_rfl) (by kernel_rfl) ?_
                refine x_appendS (bs := 16) (n' := (fileL t).length - 1) (xs' := strsV ((fileL t).take k ++ (fileL t).drop (k + 1))) (news := strsV ((fileL t).drop (k + 1))) rfl rfl rfl rfl rfl rfl rfl rfl rfl rfl rfl hN (by rw [strsV_len, List.length_drop]; omega) (fun j y hj => by obtain ⟨z, hz, rfl⟩ := strs_at hj; rw [List.getElem?_drop] at hz; have hz1 := (List.getElem?_eq_some_iff.1 hz).1; rw [hoff13 (by omega), show 0 + ((k : Int) + 1).toNat * 1 + j = k + 1 + j by omega]; exact row_cell hvl htk (by simp [strsV, hz])) (strs_one _) (by omega) (strsV_app _ _).symm (by omega) (by decide) hbz hwB (by (repeat with_reducible refine AllMem.put ?_); exact AllMem.of ⟨own_ne hN (.inl hbB), trivial⟩) (fun v14 w14 hN14 gr14 at14 => ?_)
                replace hvl := hvl.grown gr14 (Ne.symm (own_ne hN (.inl hlB)))
                try have hne14 := own_at_ne at14 hne (hA.lt c1 rfl).2
                try replace hA := hA.kept gr14 (.inr (Ne.symm hne))
                try replace hne := hne14
                replace hN := hN14
                replace hbz := Nat.le_trans hbz gr14.size
                refine vOrd_nil ?_
                refine vTree_one (i := 15) (L := #[true, true, true, true, true, true, true, true, true, true, true, true, true, true, true, true, false]) (by kernel_rfl) (by kernel_rfl) ?_
                obtain ⟨g14, cap14, cs14, rfl, hg14, _, hv14, ht14⟩ := own_row' hN (by omega)
                refine x_appendS (bs := 16) (n' := (fileL t).length) (xs' := strsV (x :: ((fileL t).take k ++ (fileL t).drop (k + 1)))) (news := strsV ((fileL t).take k ++ (fileL t).drop (k + 1))) rfl rfl rfl rfl rfl rfl rfl rfl rfl rfl rfl hA (by rw [strsV_len, List.length_append, List.length_take, List.length_drop]; omega) (fun j y hj => by rw [Nat.zero_add]; exact row_cell hv14 ht14 hj) (strs_one _) (by omega) rfl (by omega) (by decide) hbz hwB (by (repeat with_reducible refine AllMem.put ?_); exact AllMem.of ⟨own_ne hA (.inl hbB), trivial⟩) (fun v15 w15 hN15 gr15 at15 => ?_)
                replace hvl := hvl.grown gr15 (Ne.symm (own_ne hA (.inl hlB)))
                obtain ⟨g15, cap15, cs15, rfl, _, _, hv15, ht15⟩ := own_row' hN15 (by omega)
                refine vOrd_nil ?_
                refine vTree_one (i := 16) (L := #[true, true, true, true, true, true, true, true, true, true, true, true, true, true, true, true, true]) (by kernel_rfl) (by kernel_rfl) ?_
                refine s_assign rfl rfl rfl rfl ?_
                refine vOrd_nil ?_
                refine vTree_end (by kernel_rfl) ?_
                exact ⟨_, (St.of_le' (env := [(1, .v _), (2, .v _), (4, .p 4 _ 0), (12, .v _), (13, .v _), (14, .v _)]) (mem := [(4, _, [_, _, _])]) ⟨rfl, rfl, rfl, rfl, rfl, rfl, trivial⟩ ⟨rfl, trivial⟩), g15, cap15, cs15, rfl, hv15, ht15, hvl⟩
              · refine s_bs (e := 9) (cs := []) rfl rfl rfl (fun _ => by kernel_rfl) ?_
                intro c2 w5 hc2 lw5 hrow5
                have hN := own_of_row (base := B0) (n := 0) (sz := 1) hrow5 (by omega) rfl (by decide)
                clear hrow5
                try have hne : Value.ownBlock (.slice (some ⟨c2, 0, none⟩) 0 0) ≠ some c1 := by have := (hA.lt c1 rfl).2; simp only [Value.ownBlock, ne_eq, Option.some.injEq]; omega
                try replace hA := own_later hA lw5
                replace hvl := hvl.later lw5
                replace hbz := Nat.le_trans hbz lw5.size
                refine vOrd_nil ?_
                refine vTree_two (i := 4) (k := 9) (L1 := #[true, true, true, true, true, true, true, true, true, false, true, true, true, true, false, false, false]) (L2 := #[true, true, true, true, false, true, true, true, true, true, true, true, true, true, false, false, false]) (by kernel_rfl) (by kernel_rfl) (by kernel_rfl) ?_ ?_
                · refine s_bs (e := 9) (cs := [.string ⟨⟨x⟩⟩]) rfl rfl rfl (fun _ => by kernel_rfl) ?_
                  intro c1 w4 hc1 lw4 hrow4
                  have hA := own_of_row (base := B0) (n := 1) (sz := 1) hrow4 (by omega) rfl (by decide)
                  clear hrow4
                  try have hne := own_ne hN (b := c1) (.inr hc1)
                  try replace hN := own_later hN lw4
                  replace hvl := hvl.later lw4
                  replace hbz := Nat.le_trans hbz lw4.size
                  refine vOrd_nil ?_
                  refine vTree_one (i := 9) (L := #[true, true, true, true, true, true, true, true, true, true, true, true, true, true, false, false, false]) (by kernel_rfl) (by kernel_rfl) ?_
                  refine x_appendS (bs := 16) (n' := k) (xs' := strsV ((fileL t).take k)) (news := strsV ((fileL t).take k)) rfl rfl rfl rfl rfl rfl rfl rfl rfl rfl rfl hN (by rw [strsV_len, List.length_take]; omega) (fun j y hj => by rw [Nat.zero_add]; obtain ⟨z, hz, rfl⟩ := strs_at hj; have hz1 := (List.getElem?_eq_some_iff.1 hz).1; rw [List.length_take] at hz1; rw [List.getElem?_take_of_lt (by omega)] at hz; exact row_cell hvl htk (by simp [strsV, hz])) (strs_one _) (by omega) (List.nil_append _) (by omega) (by decide) hbz hwB (by (repeat with_reducible refine AllMem.put ?_); exact AllMem.of ⟨own_ne hN (.inl hbB), trivial⟩) (fun v9 w9 hN9 gr9 at9 => ?_)
                  replace hvl := hvl.grown gr9 (Ne.symm (own_ne hN (.inl hlB)))
                  try have hne9 := own_at_ne at9 hne (hA.lt c1 rfl).2
                  try replace hA := hA.kept gr9 (.inr (Ne.symm hne))
                  try replace hne := hne9
                  replace hN := hN9
                  replace hbz := Nat.le_trans hbz gr9.size
                  refine vOrd_nil ?_
                  refine vTree_one (i := 14) (L := #[true, true, true, true, true, true, true, true, true, true, true, true, true, true, true, false, false]) (by kernel_rfl) (by kernel_rfl) ?_
                  refine x_appendS (bs := 16) (n' := (fileL t).length - 1) (xs' := strsV ((fileL t).take k ++ (fileL t).drop (k + 1))) (news := strsV ((fileL t).drop (k + 1))) rfl rfl rfl rfl rfl rfl rfl rfl rfl rfl rfl hN (by rw [strsV_len, List.length_drop]; omega) (fun j y hj => by obtain ⟨z, hz, rfl⟩ := strs_at hj; rw [List.getElem?_drop] at hz; have hz1 := (List.getElem?_eq_some_iff.1 hz).1; rw [hoff13 (by omega), show 0 + ((k : Int) + 1).toNat * 1 + j = k + 1 + j by omega]; exact row_cell hvl htk (by simp [strsV, hz])) (strs_one _) (by omega) (strsV_app _ _).symm (by omega) (by decide) hbz hwB (by (repeat with_reducible refine AllMem.put ?_); exact AllMem.of ⟨own_ne hN (.inl hbB), trivial⟩) (fun v14 w14 hN14 gr14 at14 => ?_)
                  replace hvl := hvl.grown gr14 (Ne.symm (own_ne hN (.inl hlB)))
                  try have hne14 := own_at_ne at14 hne (hA.lt c1 rfl).2
                  try replace hA := hA.kept gr14 (.inr (Ne.symm hne))
                  try replace hne := hne14
                  replace hN := hN14
                  replace hbz := Nat.le_trans hbz gr14.size
                  refine vOrd_nil ?_
                  refine vTree_one (i := 15) (L := #[true, true, true, true, true, true, true, true, true, true, true, true, true, true, true, true, false]) (by kernel_rfl) (by kernel_rfl) ?_
                  obtain ⟨g14, cap14, cs14, rfl, hg14, _, hv14, ht14⟩ := own_row' hN (by omega)
                  refine x_appendS (bs := 16) (n' := (fileL t).length) (xs' := strsV (x :: ((fileL t).take k ++ (fileL t).drop (k + 1)))) (news := strsV ((fileL t).take k ++ (fileL t).drop (k + 1))) rfl rfl rfl rfl rfl rfl rfl rfl rfl rfl rfl hA (by rw [strsV_len, List.length_append, List.length_take, List.length_drop]; omega) (fun j y hj => by rw [Nat.zero_add]; exact row_cell hv14 ht14 hj) (strs_one _) (by omega) rfl (by omega) (by decide) hbz hwB (by (repeat with_reducible refine AllMem.put ?_); exact AllMem.of ⟨own_ne hA (.inl hbB), trivial⟩) (fun v15 w15 hN15 gr15 at15 => ?_)
                  replace hvl := hvl.grown gr15 (Ne.symm (own_ne hA (.inl hlB)))
                  obtain ⟨g15, cap15, cs15, rfl, _, _, hv15, ht15⟩ := own_row' hN15 (by omega)
                  refine vOrd_nil ?_
                  refine vTree_one (i := 16) (L := #[true, true, true, true, true, true, true, true, true, true, true, true, true, true, true, true, true]) (by kernel_rfl) (by kernel_rfl) ?_
                  refine s_assign rfl rfl rfl rfl ?_
                  refine vOrd_nil ?_
                  refine vTree_end (by kernel_rfl) ?_
                  exact ⟨_, (St.of_le' (env := [(1, .v _), (2, .v _), (4, .p 4 _ 0), (12, .v _), (13, .v _), (14, .v _)]) (mem := [(4, _, [_, _, _])]) ⟨rfl, rfl, rfl, rfl, rfl, rfl, trivial⟩ ⟨rfl, trivial⟩), g15, cap15, cs15, rfl, hv15, ht15, hvl⟩
                · refine x_appendS (bs := 16) (n' := k) (xs' := strsV ((fileL t).take k)) (news := strsV ((fileL t).take k)) rfl rfl rfl rfl rfl rfl rfl rfl rfl rfl rfl hN (by rw [strsV_len, List.length_take]; omega) (fun j y hj => by rw [Nat.zero_add]; obtain ⟨z, hz, rfl⟩ := strs_at hj; have hz1 := (List.getElem?_eq_some_iff.1 hz).1; rw [List.length_take] at hz1; rw [List.getElem?_take_of_lt (by omega)] at hz; exact row_cell hvl htk (by simp [strsV, hz])) (strs_one _) (by omega) (List.nil_append _) (by omega) (by decide) hbz hwB (by (repeat with_reducible refine AllMem.put ?_); exact AllMem.of ⟨own_ne hN (.inl hbB), trivial⟩) (fun v9 w9 hN9 gr9 at9 => ?_)
                  replace hvl := hvl.grown gr9 (Ne.symm (own_ne hN (.inl hlB)))
                  try have hne9 := own_at_ne at9 hne (hA.lt c1 rfl).2
                  try replace hA := hA.kept gr9 (.inr (Ne.symm hne))
                  try replace hne := hne9
                  replace hN := hN9
                  replace hbz := Nat.le_trans hbz gr9.size
                  refine vOrd_nil ?_
                  refine vTree_two (i := 4) (k := 14) (L1 := #[true, true, true, true, true, true, true, true, true, true, true, true, true, true, false, false, false]) (L2 := #[true, true, true, true, false, true, true, true, true, true, true, true, true, true, true, false, false]) (by kernel_rfl) (by kernel_rfl) (by kernel_rfl) ?_ ?_
                  · refine s_bs (e := 9) (cs := [.string ⟨⟨x⟩⟩]) rfl rfl rfl (fun _ => by kernel_rfl) ?_
                    intro c1 w4 hc1 lw4 hrow4
                    have hA := own_of_row (base := B0) (n := 1) (sz := 1) hrow4 (by omega) rfl (by decide)
                    clear hrow4
                    try have hne := own_ne hN (b := c1) (.inr hc1)
                    try replace hN := own_later hN lw4
                    replace hvl := hvl.later lw4
                    replace hbz := Nat.le_trans hbz lw4.size
                    refine vOrd_nil ?_
                    refine vTree_one (i := 14) (L := #[true, true, true, true, true, true, true, true, true, true, true, true, true, true, true, false, false]) (by kernel_rfl) (by kernel_rfl) ?_
                    refine x_appendS (bs := 16) (n' := (fileL t).length - 1) (xs' := strsV ((fileL t).take k ++ (fileL t).drop (k + 1))) (news := strsV ((fileL t).drop (k + 1))) rfl rfl rfl rfl rfl rfl rfl rfl rfl rfl rfl hN (by rw [strsV_len, List.length_drop]; omega) (fun j y hj => by obtain ⟨z, hz, rfl⟩ := strs_at hj; rw [List.getElem?_drop] at hz; have hz1 := (List.getElem?_eq_some_iff.1 hz).1; rw [hoff13 (by omega), show 0 + ((k : Int) + 1).toNat * 1 + j = k + 1 + j by omega]; exact row_cell hvl htk (by simp [strsV, hz])) (strs_one _) (by omega) (strsV_app _ _).symm (by omega) (by decide) hbz hwB (by (repeat with_reducible refine AllMem.put ?_); exact AllMem.of ⟨own_ne hN (.inl hbB), trivial⟩) (fun v14 w14 hN14 gr14 at14 => ?_)
                    replace hvl := hvl.grown gr14 (Ne.symm (own_ne hN (.inl hlB)))
                    try have hne14 := own_at_ne at14 hne (hA.lt c1 rfl).2
                    try replace hA := hA.kept gr14 (.inr (Ne.symm hne))
                    try replace hne := hne14
                    replace hN := hN14
                    replace hbz := Nat.le_trans hbz gr14.size
                    refine vOrd_nil ?_
                    refine vTree_one (i := 15) (L := #[true, true, true, true, true, true, true, true, true, true, true, true, true, true, true, true, false]) (by kernel_rfl) (by kernel_rfl) ?_
                    obtain ⟨g14, cap14, cs14, rfl, hg14, _, hv14, ht14⟩ := own_row' hN (by omega)
                    refine x_appendS (bs := 16) (n' := (fileL t).length) (xs' := strsV (x :: ((fileL t).take k ++ (fileL t).drop (k + 1)))) (news := strsV ((fileL t).take k ++ (fileL t).drop (k + 1))) rfl rfl rfl rfl rfl rfl rfl rfl rfl rfl rfl hA (by rw [strsV_len, List.length_append, List.length_take, List.length_drop]; omega) (fun j y hj => by rw [Nat.zero_add]; exact row_cell hv14 ht14 hj) (strs_one _) (by omega) rfl (by omega) (by decide) hbz hwB (by (repeat with_reducible refine AllMem.put ?_); exact AllMem.of ⟨own_ne hA (.inl hbB), trivial⟩) (fun v15 w15 hN15 gr15 at15 => ?_)
                    replace hvl := hvl.grown gr15 (Ne.symm (own_ne hA (.inl hlB)))
                    obtain ⟨g15, cap15, cs15, rfl, _, _, hv15, ht15⟩ := own_row' hN15 (by omega)
                    refine vOrd_nil ?_
                    refine vTree_one (i := 16) (L := #[true, true, true, true, true, true, true, true, true, true, true, true, true, true, true, true, true]) (by kernel_rfl) (by kernel_rfl) ?_
                    refine s_assign rfl rfl rfl rfl ?_
                    refine vOrd_nil ?_
                    refine vTree_end (by kernel_rfl) ?_
                    exact ⟨_, (St.of_le' (env := [(1, .v _), (2, .v _), (4, .p 4 _ 0), (12, .v _), (13, .v _), (14, .v _)]) (mem := [(4, _, [_, _, _])]) ⟨rfl, rfl, rfl, rfl, rfl, rfl, trivial⟩ ⟨rfl, trivial⟩), g15, cap15, cs15, rfl, hv15, ht15, hvl⟩
                  · refine x_appendS (bs := 16) (n' := (fileL t).length - 1) (xs' := strsV ((fileL t).take k ++ (fileL t).drop (k + 1))) (news := strsV ((fileL t).drop (k + 1))) rfl rfl rfl rfl rfl rfl rfl rfl rfl rfl rfl hN (by rw [strsV_len, List.length_drop]; omega) (fun j y hj => by obtain ⟨z, hz, rfl⟩ := strs_at hj; rw [List.getElem?_drop] at hz; have hz1 := (List.getElem?_eq_some_iff.1 hz).1; rw [hoff13 (by omega), show 0 + ((k : Int) + 1).toNat * 1 + j = k + 1 + j by omega]; exact row_cell hvl htk (by simp [strsV, hz])) (strs_one _) (by omega) (strsV_app _ _).symm (by omega) (by decide) hbz hwB (by (repeat with_reducible refine AllMem.put ?_); exact AllMem.of ⟨own_ne hN (.inl hbB), trivial⟩) (fun v14 w14 hN14 gr14 at14 => ?_)
                    replace hvl := hvl.grown gr14 (Ne.symm (own_ne hN (.inl hlB)))
                    try have hne14 := own_at_ne at14 hne (hA.lt c1 rfl).2
                    try replace hA := hA.kept gr14 (.inr (Ne.symm hne))
                    try replace hne := hne14
                    replace hN := hN14
                    replace hbz := Nat.le_trans hbz gr14.size
                    refine vOrd_nil ?_
                    refine vTree_one (i := 4) (L := #[true, true, true, true, true, true, true, true, true, true, true, true, true, true, true, false, false]) (by kernel_rfl) (by kernel_rfl) ?_
                    refine s_bs (e := 9) (cs := [.string ⟨⟨x⟩⟩]) rfl rfl rfl (fun _ => by kernel_rfl) ?_
                    intro c1 w4 hc1 lw4 hrow4
                    have hA := own_of_row (base := B0) (n := 1) (sz := 1) hrow4 (by omega) rfl (by decide)
                    clear hrow4
                    try have hne := own_ne hN (b := c1) (.inr hc1)
                    try replace hN := own_later hN lw4
                    replace hvl := hvl.later lw4
                    replace hbz := Nat.le_trans hbz lw4.size
                    refine vOrd_nil ?_
                    refine vTree_one (i := 15) (L := #[true, true, true, true, true, true, true, true, true, true, true, true, true, true, true, true, false]) (by kernel_rfl) (by kernel_rfl) ?_
                    obtain ⟨g14, cap14, cs14, rfl, hg14, _, hv14, ht14⟩ := own_row' hN (by omega)
                    refine x_appendS (bs := 16) (n' := (fileL t).length) (xs' := strsV (x :: ((fileL t).take k ++ (fileL t).drop (k + 1)))) (news := strsV ((fileL t).take k ++ (fileL t).drop (k + 1))) rfl rfl rfl rfl rfl rfl rfl rfl rfl rfl rfl hA (by rw [strsV_len, List.length_append, List.length_take, List.length_drop]; omega) (fun j y hj => by rw [Nat.zero_add]; exact row_cell hv14 ht14 hj) (strs_one _) (by omega) rfl (by omega) (by decide) hbz hwB (by (repeat with_reducible refine AllMem.put ?_); exact AllMem.of ⟨own_ne hA (.inl hbB), trivial⟩) (fun v15 w15 hN15 gr15 at15 => ?_)
                    replace hvl := hvl.grown gr15 (Ne.symm (own_ne hA (.inl hlB)))
                    obtain ⟨g15, cap15, cs15, rfl, _, _, hv15, ht15⟩ := own_row' hN15 (by omega)
                    refine vOrd_nil ?_
                    refine vTree_one (i := 16) (L := #[true, true, true, true, true, true, true, true, true, true, true, true, true, true, true, true, true]) (by kernel_rfl) (by kernel_rfl) ?_
                    refine s_assign rfl rfl rfl rfl ?_
                    refine vOrd_nil ?_
                    refine vTree_end (by kernel_rfl) ?_
                    exact ⟨_, (St.of_le' (env := [(1, .v _), (2, .v _), (4, .p 4 _ 0), (12, .v _), (13, .v _), (14, .v _)]) (mem := [(4, _, [_, _, _])]) ⟨rfl, rfl, rfl, rfl, rfl, rfl, trivial⟩ ⟨rfl, trivial⟩), g15, cap15, cs15, rfl, hv15, ht15, hvl⟩
            · refine s_bs (e := 9) (cs := []) rfl rfl rfl (fun _ => by kernel_rfl) ?_
              intro c2 w5 hc2 lw5 hrow5
              have hN := own_of_row (base := B0) (n := 0) (sz := 1) hrow5 (by omega) rfl (by decide)
              clear hrow5
              try have hne : Value.ownBlock (.slice (some ⟨c2, 0, none⟩) 0 0) ≠ some c1 := by have := (hA.lt c1 rfl).2; simp only [Value.ownBlock, ne_eq, Option.some.injEq]; omega
              try replace hA := own_later hA lw5
              replace hvl := hvl.later lw5
              replace hbz := Nat.le_trans hbz lw5.size
              refine vOrd_nil ?_
              refine vTree_two (i := 3) (k := 9) (L1 := #[true, true, true, true, false, true, true, true, true, false, true, true, true, true, false, false, false]) (L2 := #[true, true, true, false, false, true, true, true, true, true, true, true, true, true, false, false, false]) (by kernel_rfl) (by kernel_rfl) (by kernel_rfl) ?_ ?_
              · refine x_ldc rfl rfl rfl rfl rfl (row_cell hvl htk (strs_get hx)) ?_
                refine vOrd_nil ?_
                refine vTree_two (i := 4) (k := 9) (L1 := #[true, true, true, true, true, true, true, true, true, false, true, true, true, true, false, false, false]) (L2 := #[true, true, true, true, false, true, true, true, true, true, true, true, true, true, false, false, false]) (by kernel_rfl) (by kernel_rfl) (by kernel_rfl) ?_ ?_
                · refine s_bs (e := 9) (cs := [.string ⟨⟨x⟩⟩]) rfl rfl rfl (fun _ => by kernel_rfl) ?_
                  intro c1 w4 hc1 lw4 hrow4
                  have hA := own_of_row (base := B0) (n := 1) (sz := 1) hrow4 (by omega) rfl (by decide)
                  clear hrow4
                  try have hne := own_ne hN (b := c1) (.inr hc1)
                  try replace hN := own_later hN lw4
                  replace hvl := hvl.later lw4
                  replace hbz := Nat.le_trans hbz lw4.size
                  refine vOrd_nil ?_
                  refine vTree_one (i := 9) (L := #[true, true, true, true, true, true, true, true, true, true, true, true, true, true, false, false, false]) (by kernel_rfl) (by kernel_rfl) ?_
                  refine x_appendS (bs := 16) (n' := k) (xs' := strsV ((fileL t).take k)) (news := strsV ((fileL t).take k)) rfl rfl rfl rfl rfl rfl rfl rfl rfl rfl rfl hN (by rw [strsV_len, List.length_take]; omega) (fun j y hj => by rw [Nat.zero_add]; obtain ⟨z, hz, rfl⟩ := strs_at hj; have hz1 := (List.getElem?_eq_some_iff.1 hz).1; rw [List.length_take] at hz1; rw [List.getElem?_take_of_lt (by omega)] at hz; exact row_cell hvl htk (by simp [strsV, hz])) (strs_one _) (by omega) (List.nil_append _) (by omega) (by decide) hbz hwB (by (repeat with_reducible refine AllMem.put ?_); exact AllMem.of ⟨own_ne hN (.inl hbB), trivial⟩) (fun v9 w9 hN9 gr9 at9 => ?_)
                  replace hvl := hvl.grown gr9 (Ne.symm (own_ne hN (.inl hlB)))
                  try have hne9 := own_at_ne at9 hne (hA.lt c1 rfl).2
                  try replace hA := hA.kept gr9 (.inr (Ne.symm hne))
                  try replace hne := hne9
                  replace hN := hN9
                  replace hbz := Nat.le_trans hbz gr9.size
                  refine vOrd_nil ?_
                  refine vTree_one (i := 14) (L := #[true, true, true, true, true, true, true, true, true, true, true, true, true, true, true, false, false]) (by kernel_rfl) (by kernel_rfl) ?_
                  refine x_appendS (bs := 16) (n' := (fileL t).length - 1) (xs' := strsV ((fileL t).take k ++ (fileL t).drop (k + 1))) (news := strsV ((fileL t).drop (k + 1))) rfl rfl rfl rfl rfl rfl rfl rfl rfl rfl rfl hN (by rw [strsV_len, List.length_drop]; omega) (fun j y hj => by obtain ⟨z, hz, rfl⟩ := strs_at hj; rw [List.getElem?_drop] at hz; have hz1 := (List.getElem?_eq_some_iff.1 hz).1; rw [hoff13 (by omega), show 0 + ((k : Int) + 1).toNat * 1 + j = k + 1 + j by omega]; exact row_cell hvl htk (by simp [strsV, hz])) (strs_one _) (by omega) (strsV_app _ _).symm (by omega) (by decide) hbz hwB (by (repeat with_reducible refine AllMem.put ?_); exact AllMem.of ⟨own_ne hN (.inl hbB), trivial⟩) (fun v14 w14 hN14 gr14 at14 => ?_)
                  replace hvl := hvl.grown gr14 (Ne.symm (own_ne hN (.inl hlB)))
                  try have hne14 := own_at_ne at14 hne (hA.lt c1 rfl).2
                  try replace hA := hA.kept gr14 (.inr (Ne.symm hne))
                  try replace hne := hne14
                  replace hN := hN14
                  replace hbz := Nat.le_trans hbz gr14.size
                  refine vOrd_nil ?_
                  refine vTree_one (i := 15) (L := #[true, true, true, true, true, true, true, true, true, true, true, true, true, true, true, true, false]) (by kernel_rfl) (by kernel_rfl) ?_
                  obtain ⟨g14, cap14, cs14, rfl, hg14, _, hv14, ht14⟩ := own_row' hN (by omega)
                  refine x_appendS (bs := 16) (n' := (fileL t).length) (xs' := strsV (x :: ((fileL t).take k ++ (fileL t).drop (k + 1)))) (news := strsV ((fileL t).take k ++ (fileL t).drop (k + 1))) rfl rfl rfl rfl rfl rfl rfl rfl rfl rfl rfl hA (by rw [strsV_len, List.length_append, List.length_take, List.length_drop]; omega) (fun j y hj => by rw [Nat.zero_add]; exact row_cell hv14 ht14 hj) (strs_one _) (by omega) rfl (by omega) (by decide) hbz hwB (by (repeat with_reducible refine AllMem.put ?_); exact AllMem.of ⟨own_ne hA (.inl hbB), trivial⟩) (fun v15 w15 hN15 gr15 at15 => ?_)
                  replace hvl := hvl.grown gr15 (Ne.symm (own_ne hA (.inl hlB)))
                  obtain ⟨g15, cap15, cs15, rfl, _, _, hv15, ht15⟩ := own_row' hN15 (by omega)
                  refine vOrd_nil ?_
                  refine vTree_one (i := 16) (L := #[true, true, true, true, true, true, true, true, true, true, true, true, true, true, true, true, true]) (by kernel_rfl) (by kernel_rfl) ?_
                  refine s_assign rfl rfl rfl rfl ?_
                  refine vOrd_nil ?_
                  refine vTree_end (by kernel_rfl) ?_
                  exact ⟨_, (St.of_le' (env := [(1, .v _), (2, .v _), (4, .p 4 _ 0), (12, .v _), (13, .v _), (14, .v _)]) (mem := [(4, _, [_, _, _])]) ⟨rfl, rfl, rfl, rfl, rfl, rfl, trivial⟩ ⟨rfl, trivial⟩), g15, cap15, cs15, rfl, hv15, ht15, hvl⟩
                · refine x_appendS (bs := 16) (n' := k) (xs' := strsV ((fileL t).take k)) (news := strsV ((fileL t).take k)) rfl rfl rfl rfl rfl rfl rfl rfl rfl rfl rfl hN (by rw [strsV_len, List.length_take]; omega) (fun j y hj => by rw [Nat.zero_add]; obtain ⟨z, hz, rfl⟩ := strs_at hj; have hz1 := (List.getElem?_eq_some_iff.1 hz).1; rw [List.length_take] at hz1; rw [List.getElem?_take_of_lt (by omega)] at hz; exact row_cell hvl htk (by simp [strsV, hz])) (strs_one _) (by omega) (List.nil_append _) (by omega) (by decide) hbz hwB (by (repeat with_reducible refine AllMem.put ?_); exact AllMem.of ⟨own_ne hN (.inl hbB), trivial⟩) (fun v9 w9 hN9 gr9 at9 => ?_)
                  replace hvl := hvl.grown gr9 (Ne.symm (own_ne hN (.inl hlB)))
                  try have hne9 := own_at_ne at9 hne (hA.lt c1 rfl).2
                  try replace hA := hA.kept gr9 (.inr (Ne.symm hne))
                  try replace hne := hne9
                  replace hN := hN9
                  replace hbz := Nat.le_trans hbz gr9.size
                  refine vOrd_nil ?_
                  refine vTree_two (i := 4) (k := 14) (L1 := #[true, true, true, true, true, true, true, true, true, true, true, true, true, true, false, false, false]) (L2 := #[true, true, true, true, false, true, true, true, true, true, true, true, true, true, true, false, false]) (by kernel_rfl) (by kernel_rfl) (by kernel_rfl) ?_ ?_
                  · refine s_bs (e := 9) (cs := [.string ⟨⟨x⟩⟩]) rfl rfl rfl (fun _ => by kernel_rfl) ?_
                    intro c1 w4 hc1 lw4 hrow4
                    have hA := own_of_row (base := B0) (n := 1) (sz := 1) hrow4 (by omega) rfl (by decide)
                    clear hrow4
                    try have hne := own_ne hN (b := c1) (.inr hc1)
                    try replace hN := own_later hN lw4
                    replace hvl := hvl.later lw4
                    replace hbz := Nat.le_trans hbz lw4.size
                    refine vOrd_nil ?_
                    refine vTree_one (i := 14) (L := #[true, true, true, true, true, true, true, true, true, true, true, true, true, true, true, false, false]) (by kernel_rfl) (by kernel_rfl) ?_
                    refine x_appendS (bs := 16) (n' := (fileL t).length - 1) (xs' := strsV ((fileL t).take k ++ (fileL t).drop (k + 1))) (news := strsV ((fileL t).drop (k + 1))) rfl rfl rfl rfl rfl rfl rfl rfl rfl rfl rfl hN (by rw [strsV_len, List.length_drop]; omega) (fun j y hj => by obtain ⟨z, hz, rfl⟩ := strs_at hj; rw [List.getElem?_drop] at hz; have hz1 := (List.getElem?_eq_some_iff.1 hz).1; rw [hoff13 (by omega), show 0 + ((k : Int) + 1).toNat * 1 + j = k + 1 + j by omega]; exact row_cell hvl htk (by simp [strsV, hz])) (strs_one _) (by omega) (strsV_app _ _).symm (by omega) (by decide) hbz hwB (by (repeat with_reducible refine AllMem.put ?_); exact AllMem.of ⟨own_ne hN (.inl hbB), trivial⟩) (fun v14 w14 hN14 gr14 at14 => ?_)
                    replace hvl := hvl.grown gr14 (Ne.symm (own_ne hN (.inl hlB)))
                    try have hne14 := own_at_ne at14 hne (hA.lt c1 rfl).2
                    try replace hA := hA.kept gr14 (.inr (Ne.symm hne))
                    try replace hne := hne14
                    replace hN := hN14
                    replace hbz := Nat.le_trans hbz gr14.size
                    refine vOrd_nil ?_
                    refine vTree_one (i := 15) (L := #[true, true, true, true, true, true, true, true, true, true, true, true, true, true, true, true, false]) (by kernel_rfl) (by kernel_rfl) ?_
                    obtain ⟨g14, cap14, cs14, rfl, hg14, _, hv14, ht14⟩ := own_row' hN (by omega)
                    refine x_appendS (bs := 16) (n' := (fileL t).length) (xs' := strsV (x :: ((fileL t).take k ++ (fileL t).drop (k + 1)))) (news := strsV ((fileL t).take k ++ (fileL t).drop (k + 1))) rfl rfl rfl rfl rfl rfl rfl rfl rfl rfl rfl hA (by rw [strsV_len, List.length_append, List.length_take, List.length_drop]; omega) (fun j y hj => by rw [Nat.zero_add]; exact row_cell hv14 ht14 hj) (strs_one _) (by omega) rfl (by omega) (by decide) hbz hwB (by (repeat with_reducible refine AllMem.put ?_); exact AllMem.of ⟨own_ne hA (.inl hbB), trivial⟩) (fun v15 w15 hN15 gr15 at15 => ?_)
                    replace hvl := hvl.grown gr15 (Ne.symm (own_ne hA (.inl hlB)))
                    obtain ⟨g15, cap15, cs15, rfl, _, _, hv15, ht15⟩ := own_row' hN15 (by omega)
                    refine vOrd_nil ?_
                    refine vTree_one (i := 16) (L := #[true, true, true, true, true, true, true, true, true, true, true, true, true, true, true, true, true]) (by kernel_rfl) (by kernel_rfl) ?_
                    refine s_assign rfl rfl rfl rfl ?_
                    refine vOrd_nil ?_
                    refine vTree_end (by kernel_rfl) ?_
                    exact ⟨_, (St.of_le' (env := [(1, .v _), (2, .v _), (4, .p 4 _ 0), (12, .v _), (13, .v _), (14, .v _)]) (mem := [(4, _, [_, _, _])]) ⟨rfl, rfl, rfl, rfl, rfl, rfl, trivial⟩ ⟨rfl, trivial⟩), g15, cap15, cs15, rfl, hv15, ht15, hvl⟩
                  · refine x_appendS (bs := 16) (n' := (fileL t).length - 1) (xs' := strsV ((fileL t).take k ++ (fileL t).drop (k + 1))) (news := strsV ((fileL t).drop (k + 1))) rfl rfl rfl rfl rfl rfl rfl rfl rfl rfl rfl hN (by rw [strsV_len, List.length_drop]; omega) (fun j y hj => by obtain ⟨z, hz, rfl⟩ := strs_at hj; rw [List.getElem?_drop] at hz; have hz1 := (List.getElem?_eq_some_iff.1 hz).1; rw [hoff13 (by omega), show 0 + ((k : Int) + 1).toNat * 1 + j = k + 1 + j by omega]; exact row_cell hvl htk (by simp [strsV, hz])) (strs_one _) (by omega) (strsV_app _ _).symm (by omega) (by decide) hbz hwB (by (repeat with_reducible refine AllMem.put ?_); exact AllMem.of ⟨own_ne hN (.inl hbB), trivial⟩) (fun v14 w14 hN14 gr14 at14 => ?_)
                    replace hvl := hvl.grown gr14 (Ne.symm (own_ne hN (.inl hlB)))
                    try have hne14 := own_at_ne at14 hne (hA.lt c1 rfl).2
                    try replace hA := hA.kept gr14 (.inr (Ne.symm hne))
                    try replace hne := hne14
                    replace hN := hN14
                    replace hbz := Nat.le_trans hbz gr14.size
                    refine vOrd_nil ?_
                    refine vTree_one (i := 4) (L := #[true, true, true, true, true, true, true, true, true, true, true, true, true, true, true, false, false]) (by kernel_rfl) (by kernel_rfl) ?_
                    refine s_bs (e := 9) (cs := [.string ⟨⟨x⟩⟩]) rfl rfl rfl (fun _ => by kernel_rfl) ?_
                    intro c1 w4 hc1 lw4 hrow4
                    have hA := own_of_row (base := B0) (n := 1) (sz := 1) hrow4 (by omega) rfl (by decide)
                    clear hrow4
                    try have hne := own_ne hN (b := c1) (.inr hc1)
                    try replace hN := own_later hN lw4
                    replace hvl := hvl.later lw4
                    replace hbz := Nat.le_trans hbz lw4.size
                    refine vOrd_nil ?_
                    refine vTree_one (i := 15) (L := #[true, true, true, true, true, true, true, true, true, true, true, true, true, true, true, true, false]) (by kernel_rfl) (by kernel_rfl) ?_
                    obtain ⟨g14, cap14, cs14, rfl, hg14, _, hv14, ht14⟩ := own_row' hN (by omega)
                    refine x_appendS (bs := 16) (n' := (fileL t).length) (xs' := strsV (x :: ((fileL t).take k ++ (fileL t).drop (k + 1)))) (news := strsV ((fileL t).take k ++ (fileL t).drop (k + 1))) rfl rfl rfl rfl rfl rfl rfl rfl rfl rfl rfl hA (by rw [strsV_len, List.length_append, List.length_take, List.length_drop]; omega) (fun j y hj => by rw [Nat.zero_add]; exact row_cell hv14 ht14 hj) (strs_one _) (by omega) rfl (by omega) (by decide) hbz hwB (by (repeat with_reducible refine AllMem.put ?_); exact AllMem.of ⟨own_ne hA (.inl hbB), trivial⟩) (fun v15 w15 hN15 gr15 at15 => ?_)
                    replace hvl := hvl.grown gr15 (Ne.symm (own_ne hA (.inl hlB)))
                    obtain ⟨g15, cap15, cs15, rfl, _, _, hv15, ht15⟩ := own_row' hN15 (by omega)
                    refine vOrd_nil ?_
                    refine vTree_one (i := 16) (L := #[true, true, true, true, true, true, true, true, true, true, true, true, true, true, true, true, true]) (by kernel_rfl) (by kernel_rfl) ?_
                    refine s_assign rfl rfl rfl rfl ?_
                    refine vOrd_nil ?_
                    refine vTree_end (by kernel_rfl) ?_
                    exact ⟨_, (St.of_le' (env := [(1, .v _), (2, .v _), (4, .p 4 _ 0), (12, .v _), (13, .v _), (14, .v _)]) (mem := [(4, _, [_, _, _])]) ⟨rfl, rfl, rfl, rfl, rfl, rfl, trivial⟩ ⟨rfl, trivial⟩), g15, cap15, cs15, rfl, hv15, ht15, hvl⟩
              · refine x_appendS (bs := 16) (n' := k) (xs' := strsV ((fileL t).take k)) (news := strsV ((fileL t).take k)) rfl rfl rfl rfl rfl rfl rfl rfl rfl rfl rfl hN (by rw [strsV_len, List.length_take]; omega) (fun j y hj => by rw [Nat.zero_add]; obtain ⟨z, hz, rfl⟩ := strs_at hj; have hz1 := (List.getElem?_eq_some_iff.1 hz).1; rw [List.length_take] at hz1; rw [List.getElem?_take_of_lt (by omega)] at hz; exact row_cell hvl htk (by simp [strsV, hz])) (strs_one _) (by omega) (List.nil_append _) (by omega) (by decide) hbz hwB (by (repeat with_reducible refine AllMem.put ?_); exact AllMem.of ⟨own_ne hN (.inl hbB), trivial⟩) (fun v9 w9 hN9 gr9 at9 => ?_)
                replace hvl := hvl.grown gr9 (Ne.symm (own_ne hN (.inl hlB)))
                try have hne9 := own_at_ne at9 hne (hA.lt c1 rfl).2
                try replace hA := hA.kept gr9 (.inr (Ne.symm hne))
                try replace hne := hne9
                replace hN := hN9
                replace hbz := Nat.le_trans hbz gr9.size
                refine vOrd_nil ?_
                refine vTree_two (i := 3) (k := 14) (L1 := #[true, true, true, true, false, true, true, true, true, true, true, true, true, true, false, false, false]) (L2 := #[true, true, true, false, false, true, true, true, true, true, true, true, true, true, true, false, false]) (by kernel_rfl) (by kernel_rfl) (by kernel_rfl) ?_ ?_
                · refine x_ldc rfl rfl rfl rfl rfl (row_cell hvl htk (strs_get hx)) ?_
                  refine vOrd_nil ?_
                  refine vTree_two (i := 4) (k := 14) (L1 := #[true, true, true, true, true, true, true, true, true, true, true, true, true, true, false, false, false]) (L2 := #[true, true, true, true, false, true, true, true, true, true, true, true, true, true, true, false, false]) (by kernel_rfl) (by kernel_rfl) (by kernel_rfl) ?_ ?_
                  · refine s_bs (e := 9) (cs := [.string ⟨⟨x⟩⟩]) rfl rfl rfl (fun _ => by kernel_rfl) ?_
                    intro c1 w4 hc1 lw4 hrow4
                    have hA := own_of_row (base := B0) (n := 1) (sz := 1) hrow4 (by omega) rfl (by decide)
                    clear hrow4
                    try have hne := own_ne hN (b := c1) (.inr hc1)
                    try replace hN := own_later hN lw4
                    replace hvl := hvl.later lw4
                    replace hbz := Nat.le_trans hbz lw4.size
                    refine vOrd_nil ?_
                    refine vTree_one (i := 14) (L := #[true, true, true, true, true, true, true, true, true, true, true, true, true, true, true, false, false]) (by kernel_rfl) (by kernel_rfl) ?_
                    refine x_appendS (bs := 16) (n' := (fileL t).length - 1) (xs' := strsV ((fileL t).take k ++ (fileL t).drop (k + 1))) (news := strsV ((fileL t).drop (k + 1))) rfl rfl rfl rfl rfl rfl rfl rfl rfl rfl rfl hN (by rw [strsV_len, List.length_drop]; omega) (fun j y hj => by obtain ⟨z, hz, rfl⟩ := strs_at hj; rw [List.getElem?_drop] at hz; have hz1 := (List.getElem?_eq_some_iff.1 hz).1; rw [hoff13 (by omega), show 0 + ((k : Int) + 1).toNat * 1 + j = k + 1 + j by omega]; exact row_cell hvl htk (by simp [strsV, hz])) (strs_one _) (by omega) (strsV_app _ _).symm (by omega) (by decide) hbz hwB (by (repeat with_reducible refine AllMem.put ?_); exact AllMem.of ⟨own_ne hN (.inl hbB), trivial⟩) (fun v14 w14 hN14 gr14 at14 => ?_)
                    replace hvl := hvl.grown gr14 (Ne.symm (own_ne hN (.inl hlB)))
                    try have hne14 := own_at_ne at14 hne (hA.lt c1 rfl).2
                    try replace hA := hA.kept gr14 (.inr (Ne.symm hne))
                    try replace hne := hne14
                    replace hN := hN14
                    replace hbz := Nat.le_trans hbz gr14.size
                    refine vOrd_nil ?_
                    refine vTree_one (i := 15) (L := #[true, true, true, true, true, true, true, true, true, true, true, true, true, true, true, true, false]) (by kernel_rfl) (by kernel_rfl) ?_
                    obtain ⟨g14, cap14, cs14, rfl, hg14, _, hv14, ht14⟩ := own_row' hN (by omega)
                    refine x_appendS (bs := 16) (n' := (fileL t).length) (xs' := strsV (x :: ((fileL t).take k ++ (fileL t).drop (k + 1)))) (news := strsV ((fileL t).take k ++ (fileL t).drop (k + 1))) rfl rfl rfl rfl rfl rfl rfl rfl rfl rfl rfl hA (by rw [strsV_len, List.length_append, List.length_take, List.length_drop]; omega) (fun j y hj => by rw [Nat.zero_add]; exact row_cell hv14 ht14 hj) (strs_one _) (by omega) rfl (by omega) (by decide) hbz hwB (by (repeat with_reducible refine AllMem.put ?_); exact AllMem.of ⟨own_ne hA (.inl hbB), trivial⟩) (fun v15 w15 hN15 gr15 at15 => ?_)
                    replace hvl := hvl.grown gr15 (Ne.symm (own_ne hA (.inl hlB)))
                    obtain ⟨g15, cap15, cs15, rfl, _, _, hv15, ht15⟩ := own_row' hN15 (by omega)
                    refine vOrd_nil ?_
                    refine vTree_one (i := 16) (L := #[true, true, true, true, true, true, true, true, true, true, true, true, true, true, true, true, true]) (by kernel_rfl) (by kernel_rfl) ?_
                    refine s_assign rfl rfl rfl rfl ?_
                    refine vOrd_nil ?_
                    refine vTree_end (by kernel_rfl) ?_
                    exact ⟨_, (St.of_le' (env := [(1, .v _), (2, .v _), (4, .p 4 _ 0), (12, .v _), (13, .v _), (14, .v _)]) (mem := [(4, _, [_, _, _])]) ⟨rfl, rfl, rfl, rfl, rfl, rfl, trivial⟩ ⟨rfl, trivial⟩), g15, cap15, cs15, rfl, hv15, ht15, hvl⟩
                  · refine x_appendS (bs := 16) (n' := (fileL t).length - 1) (xs' := strsV ((fileL t).take k ++ (fileL t).drop (k + 1))) (news := strsV ((fileL t).drop (k + 1))) rfl rfl rfl rfl rfl rfl rfl rfl rfl rfl rfl hN (by rw [strsV_len, List.length_drop]; omega) (fun j y hj => by obtain ⟨z, hz, rfl⟩ := strs_at hj; rw [List.getElem?_drop] at hz; have hz1 := (List.getElem?_eq_some_iff.1 hz).1; rw [hoff13 (by omega), show 0 + ((k : Int) + 1).toNat * 1 + j = k + 1 + j by omega]; exact row_cell hvl htk (by simp [strsV, hz])) (strs_one _) (by omega) (strsV_app _ _).symm (by omega) (by decide) hbz hwB (by (repeat with_reducible refine AllMem.put ?_); exact AllMem.of ⟨own_ne hN (.inl hbB), trivial⟩) (fun v14 w14 hN14 gr14 at14 => ?_)
                    replace hvl := hvl.grown gr14 (Ne.symm (own_ne hN (.inl hlB)))
                    try have hne14 := own_at_ne at14 hne (hA.lt c1 rfl).2
                    try replace hA := hA.kept gr14 (.inr (Ne.symm hne))
                    try replace hne := hne14
                    replace hN := hN14
                    replace hbz := Nat.le_trans hbz gr14.size
                    refine vOrd_nil ?_
                    refine vTree_one (i := 4) (L := #[true, true, true, true, true, true, true, true, true, true, true, true, true, true, true, false, false]) (by kernel_rfl) (by kernel_rfl) ?_
                    refine s_bs (e := 9) (cs := [.string ⟨⟨x⟩⟩]) rfl rfl rfl (fun _ => by kernel_rfl) ?_
                    intro c1 w4 hc1 lw4 hrow4
                    have hA := own_of_row (base := B0) (n := 1) (sz := 1) hrow4 (by omega) rfl (by decide)
                    clear hrow4
                    try have hne := own_ne hN (b := c1) (.inr hc1)
                    try replace hN := own_later hN lw4
                    replace hvl := hvl.later lw4
                    replace hbz := Nat.le_trans hbz lw4.size
                    refine vOrd_nil ?_
                    refine vTree_one (i := 15) (L := #[true, true, true, true, true, true, true, true, true, true, true, true, true, true, true, true, false]) (by kernel_rfl) (by kernel_rfl) ?_
                    obtain ⟨g14, cap14, cs14, rfl, hg14, _, hv14, ht14⟩ := own_row' hN (by omega)
                    refine x_appendS (bs := 16) (n' := (fileL t).length) (xs' := strsV (x :: ((fileL t).take k ++ (fileL t).drop (k + 1)))) (news := strsV ((fileL t).take k ++ (fileL t).drop (k + 1))) rfl rfl rfl rfl rfl rfl rfl rfl rfl rfl rfl hA (by rw [strsV_len, List.length_append, List.length_take, List.length_drop]; omega) (fun j y hj => by rw [Nat.zero_add]; exact row_cell hv14 ht14 hj) (strs_one _) (by omega) rfl (by omega) (by decide) hbz hwB (by (repeat with_reducible refine AllMem.put ?_); exact AllMem.of ⟨own_ne hA (.inl hbB), trivial⟩) (fun v15 w15 hN15 gr15 at15 => ?_)
                    replace hvl := hvl.grown gr15 (Ne.symm (own_ne hA (.inl hlB)))
                    obtain ⟨g15, cap15, cs15, rfl, _, _, hv15, ht15⟩ := own_row' hN15 (by omega)
                    refine vOrd_nil ?_
                    refine vTree_one (i := 16) (L := #[true, true, true, true, true, true, true, true, true, true, true, true, true, true, true, true, true]) (by kernel_rfl) (by kernel_rfl) ?_
                    refine s_assign rfl rfl rfl rfl ?_
                    refine vOrd_nil ?_
                    refine vTree_end (by kernel_rfl) ?_
                    exact ⟨_, (St.of_le' (env := [(1, .v _), (2, .v _), (4, .p 4 _ 0), (12, .v _), (13, .v _), (14, .v _)]) (mem := [(4, _, [_, _, _])]) ⟨rfl, rfl, rfl, rfl, rfl, rfl, trivial⟩ ⟨rfl, trivial⟩), g15, cap15, cs15, rfl, hv15, ht15, hvl⟩
                · refine x_appendS (bs := 16) (n' := (fileL t).length - 1) (xs' := strsV ((fileL t).take k ++ (fileL t).drop (k + 1))) (news := strsV ((fileL t).drop (k + 1))) rfl rfl rfl rfl rfl rfl rfl rfl rfl rfl rfl hN (by rw [strsV_len, List.length_drop]; omega) (fun j y hj => by obtain ⟨z, hz, rfl⟩ := strs_at hj; rw [List.getElem?_drop] at hz; have hz1 := (List.getElem?_eq_some_iff.1 hz).1; rw [hoff13 (by omega), show 0 + ((k : Int) + 1).toNat * 1 + j = k + 1 + j by omega]; exact row_cell hvl htk (by simp [strsV, hz])) (strs_one _) (by omega) (strsV_app _ _).symm (by omega) (by decide) hbz hwB (by (repeat with_reducible refine AllMem.put ?_); exact AllMem.of ⟨own_ne hN (.inl hbB), trivial⟩) (fun v14 w14 hN14 gr14 at14 => ?_)
                  replace hvl := hvl.grown gr14 (Ne.symm (own_ne hN (.inl hlB)))
                  try have hne14 := own_at_ne at14 hne (hA.lt c1 rfl).2
                  try replace hA := hA.kept gr14 (.inr (Ne.symm hne))
                  try replace hne := hne14
                  replace hN := hN14
                  replace hbz := Nat.le_trans hbz gr14.size
                  refine vOrd_nil ?_
                  refine vTree_one (i := 3) (L := #[true, true, true, true, false, true, true, true, true, true, true, true, true, true, true, false, false]) (by kernel_rfl) (by kernel_rfl) ?_
                  refine x_ldc rfl rfl rfl rfl rfl (row_cell hvl htk (strs_get hx)) ?_
                  refine vOrd_nil ?_
                  refine vTree_one (i := 4) (L := #[true, true, true, true, true, true, true, true, true, true, true, true, true, true, true, false, false]) (by kernel_rfl) (by kernel_rfl) ?_
                  refine s_bs (e := 9) (cs := [.string ⟨⟨x⟩⟩]) rfl rfl rfl (fun _ => by kernel_rfl) ?_
                  intro c1 w4 hc1 lw4 hrow4
                  have hA := own_of_row (base := B0) (n := 1) (sz := 1) hrow4 (by omega) rfl (by decide)
                  clear hrow4
                  try have hne := own_ne hN (b := c1) (.inr hc1)
                  try replace hN := own_later hN lw4
                  replace hvl := hvl.later lw4
                  replace hbz := Nat.le_trans hbz lw4.size
                  refine vOrd_nil ?_
                  refine vTree_one (i := 15) (L := #[true, true, true, true, true, true, true, true, true, true, true, true, true, true, true, true, false]) (by kernel_rfl) (by kernel_rfl) ?_
                  obtain ⟨g14, cap14, cs14, rfl, hg14, _, hv14, ht14⟩ := own_row' hN (by omega)
                  refine x_appendS (bs := 16) (n' := (fileL t).length) (xs' := strsV (x :: ((fileL t).take k ++ (fileL t).drop (k + 1)))) (news := strsV ((fileL t).take k ++ (fileL t).drop (k + 1))) rfl rfl rfl rfl rfl rfl rfl rfl rfl rfl rfl hA (by rw [strsV_len, List.length_append, List.length_take, List.length_drop]; omega) (fun j y hj => by rw [Nat.zero_add]; exact row_cell hv14 ht14 hj) (strs_one _) (by omega) rfl (by omega) (by decide) hbz hwB (by (repeat with_reducible refine AllMem.put ?_); exact AllMem.of ⟨own_ne hA (.inl hbB), trivial⟩) (fun v15 w15 hN15 gr15 at15 => ?_)
                  replace hvl := hvl.grown gr15 (Ne.symm (own_ne hA (.inl hlB)))
                  obtain ⟨g15, cap15, cs15, rfl, _, _, hv15, ht15⟩ := own_row' hN15 (by omega)
                  refine vOrd_nil ?_
                  refine vTree_one (i := 16) (L := #[true, true, true, true, true, true, true, true, true, true, true, true, true, true, true, true, true]) (by kernel_rfl) (by kernel_rfl) ?_
                  refine s_assign rfl rfl rfl rfl ?_
                  refine vOrd_nil ?_
                  refine vTree_end (by kernel_rfl) ?_
                  exact ⟨_, (St.of_le' (env := [(1, .v _), (2, .v _), (4, .p 4 _ 0), (12, .v _), (13, .v _), (14, .v _)]) (mem := [(4, _, [_, _, _])]) ⟨rfl, rfl, rfl, rfl, rfl, rfl, trivial⟩ ⟨rfl, trivial⟩), g15, cap15, cs15, rfl, hv15, ht15, hvl⟩
          · rintro st w278 ⟨g, cap, cs, rfl, hvf, hcf, hvl⟩
            refine Wp.mid (fun st W => ∃ (g cap : Nat) (cs : List Value), st = St.of [(1, .v (.string ⟨⟨m⟩⟩)), (2, .v (.int .u8 (M : Int))), (4, .p 4 bk1 0), (14, .v (.slice (some ⟨g, 0, none⟩) (fileL t).length cap))] [(4, bk1, [.int .i64 t.u, .int .i64 t.e, .slice va t.es.length vc])] ∧ Var W g cs ∧ cs.take (fileL t).length = strsV (orderK t k)) ?_ ?_
            · refine Wp.seq ?_
              refine Wp.old (fun lo => ?_)
              have tb := hT.later lo
              clear lo
              refine Wp.region [0, 1, 2, 3, 4, 5, 6, 7, 8] (by kernel_rfl) (by kernel_rfl) ?_
              refine s_move rfl rfl rfl rfl ?_
              refine p_gtr rfl rfl rfl rfl rfl (fun h70 => ?_) (fun h70 => ?_)
              · refine s_move rfl rfl rfl rfl ?_
                refine s_move rfl rfl rfl rfl ?_
                refine s_move rfl rfl rfl rfl ?_
                refine x_len rfl rfl rfl rfl rfl ?_
                refine a_sub (-9223372036854775808) 9223372036854775807 (by decide) rfl rfl rfl rfl rfl (by omega) (by omega) ?_
                refine p_lss rfl rfl rfl rfl rfl (fun h76 => ?_) (fun h76 => ?_)
                · refine s_pick rfl rfl rfl rfl rfl ?_
                  refine vOrd_nil ?_
                  refine Wp.condT rfl rfl ?_
                  refine Wp.region [0, 1] (by kernel_rfl) (by kernel_rfl) ?_
                  refine s_move rfl rfl rfl rfl ?_
                  refine s_assign rfl rfl rfl rfl ?_
                  refine vOrd_nil ?_
                  exact ⟨_, (St.of_le' (env := [(1, .v _), (2, .v _), (4, .p 4 _ 0), (14, .v _)]) (mem := [(4, _, [_, _, _])]) ⟨rfl, rfl, rfl, rfl, trivial⟩ ⟨rfl, trivial⟩), lg, lcap, lcs, rfl, hvl, htk.trans (congrArg strsV (same_K (by omega)))⟩
                · refine s_pick rfl rfl rfl rfl rfl ?_
                  refine vOrd_nil ?_
                  refine Wp.condF rfl rfl ?_
                  refine Wp.skip ?_
                  exact ⟨_, (St.of_le' (env := [(1, .v _), (2, .v _), (4, .p 4 _ 0), (14, .v _)]) (mem := [(4, _, [_, _, _])]) ⟨rfl, rfl, rfl, rfl, trivial⟩ ⟨rfl, trivial⟩), g, cap, cs, rfl, hvf, hcf.trans (congrArg strsV (first_K hpos hx (by omega)))⟩
              · refine s_move rfl rfl rfl rfl ?_
                refine s_skip rfl rfl rfl ?_
                refine s_skip rfl rfl rfl ?_
                refine s_skip rfl rfl rfl ?_
                refine s_skip rfl rfl rfl ?_
                refine s_skip rfl rfl rfl ?_
                refine s_pick rfl rfl rfl rfl rfl ?_
                refine vOrd_nil ?_
                refine Wp.condF rfl rfl ?_
                refine Wp.skip ?_
                exact ⟨_, (St.of_le' (env := [(1, .v _), (2, .v _), (4, .p 4 _ 0), (14, .v _)]) (mem := [(4, _, [_, _, _])]) ⟨rfl, rfl, rfl, rfl, trivial⟩ ⟨rfl, trivial⟩), g, cap, cs, rfl, hvf, hcf.trans (congrArg strsV (first_K hpos hx (by omega)))⟩
            · rintro st w279 ⟨g, cap, cs, rfl, hvf, hcf⟩
              refine Wp.seq ?_
              refine Wp.old (fun lo => ?_)
              have tb := hT.later lo
              clear lo
              refine Wp.region [0, 1, 2, 3, 4, 5, 6] (by kernel_rfl) (by kernel_rfl) ?_
              refine s_move rfl rfl rfl rfl ?_
              refine a_conv (-9223372036854775808) 9223372036854775807 (by decide) rfl rfl rfl rfl rfl rfl (by omega) (by omega) ?_
              refine s_move rfl rfl rfl rfl ?_
              refine x_len rfl rfl rfl rfl rfl ?_
              refine a_add (-9223372036854775808) 9223372036854775807 (by decide) rfl rfl rfl rfl rfl (by omega) (by omega) ?_
              refine a_rem rfl rfl rfl rfl rfl (by omega) (by omega) ?_
              rw [show ((fileL t).length : Int) + 1 = (((fileL t).length + 1 : Nat) : Int) by omega, ← Int.natCast_emod]
              obtain ⟨a, ha⟩ : ∃ a, a = M % ((fileL t).length + 1) := ⟨_, rfl⟩
              rw [← ha]
              have halt : a < (fileL t).length + 1 := by rw [ha]; exact Nat.mod_lt _ (by omega)
              obtain ⟨hol, hok⟩ := order_len hb k
              refine s_assign rfl rfl rfl rfl ?_
              refine vOrd_nil ?_
              refine Wp.seq ?_
              refine Wp.region [0] (by kernel_rfl) (by kernel_rfl) ?_
              refine s_assign rfl rfl rfl rfl ?_
              refine vOrd_nil ?_
              refine Wp.seq ?_
              refine Wp.seq ?_
              refine Wp.region [0] (by kernel_rfl) (by kernel_rfl) ?_
              refine s_assign rfl rfl rfl rfl ?_
              refine vOrd_nil ?_
              refine Wp.block ?_
              refine Wp.loop (fun kk st W => ∃ (i : Nat) (S : List UInt8), st = St.of [(1, .v (.string ⟨⟨m⟩⟩)), (4, .p 4 bk1 0), (14, .v (.slice (some ⟨g, 0, none⟩) (fileL t).length cap)), (15, .v (.int .i64 (a : Int))), (16, .v (.string ⟨⟨S⟩⟩)), (17, .v (.int .i64 (i : Int)))] [(4, bk1, [.int .i64 t.u, .int .i64 t.e, .slice va t.es.length vc])] ∧ S = accS (orderK t k) m a i ∧ i ≤ (orderK t k).length + 1 ∧ Var W g cs ∧ kk = (orderK t k).length + 1 - i) ?_ ?_
              · exact ⟨_, _, (St.of_le' (env := [(1, .v _), (4, .p 4 _ 0), (14, .v _), (15, .v _), (16, .v _), (17, .v _)]) (mem := [(4, _, [_, _, _])]) ⟨rfl, rfl, rfl, rfl, rfl, rfl, trivial⟩ ⟨rfl, trivial⟩), 0, _, rfl, (acc_zero _ _ _).symm, by omega, hvf, rfl⟩
              · rintro k st w286 ⟨i, S, rfl, hS, hi, hvf, rfl⟩
                refine Wp.seq ?_
                refine Wp.seq ?_
                refine Wp.old (fun lo => ?_)
                have tb := hT.later lo
                clear lo
                refine Wp.region [0, 1, 2, 3] (by kernel_rfl) (by kernel_rfl) ?_
                refine s_move rfl rfl rfl rfl ?_
                refine s_move rfl rfl rfl rfl ?_
                refine x_len rfl rfl rfl rfl rfl ?_
                refine p_leq rfl rfl rfl rfl rfl (fun h88 => ?_) (fun h88 => ?_)
                · have hSl := acc_len (O := orderK t k) (m := m) (a := a) (i := i)
                  rw [← hS] at hSl
                  refine vOrd_nil ?_
                  refine Wp.condT rfl rfl ?_
                  refine Wp.skip ?_
                  refine Wp.seq ?_
                  refine Wp.block ?_
                  refine Wp.seq ?_
                  refine Wp.seq ?_
                  refine Wp.region [0, 1, 2] (by kernel_rfl) (by kernel_rfl) ?_
                  refine s_move rfl rfl rfl rfl ?_
                  refine s_move rfl rfl rfl rfl ?_
                  refine p_eql rfl rfl rfl rfl rfl (fun h93 => ?_) (fun h93 => ?_)
                  · have h93 : i = a := by omega
                    refine vOrd_nil ?_
                    refine Wp.condT rfl rfl ?_
                    refine Wp.region [0, 1, 2, 3, 4, 5] (by kernel_rfl) (by kernel_rfl) ?_
                    refine s_move rfl rfl rfl rfl ?_
                    refine b_cat rfl rfl rfl rfl rfl (by first | omega | (simp; omega)) ?_
                    refine s_move rfl rfl rfl rfl ?_
                    refine b_cat rfl rfl rfl rfl rfl (by first | omega | (simp; omega)) ?_
                    refine b_cat rfl rfl rfl rfl rfl (by first | omega | (simp; omega)) ?_
                    refine s_assign rfl rfl rfl rfl ?_
                    refine vOrd_nil ?_
                    refine Wp.seq ?_
                    refine Wp.old (fun lo => ?_)
                    have tb := hT.later lo
                    clear lo
                    refine Wp.region [0, 1, 2, 3] (by kernel_rfl) (by kernel_rfl) ?_
                    refine s_move rfl rfl rfl rfl ?_
                    refine s_move rfl rfl rfl rfl ?_
                    refine x_len rfl rfl rfl rfl rfl ?_
                    refine p_lss rfl rfl rfl rfl rfl (fun h102 => ?_) (fun h102 => ?_)
                    · obtain ⟨y, hy⟩ := get_line (L := orderK t k) (i := i) (by omega)
                      have hyl : y.length ≤ 4000 := file_line hb ((perm_K t k).mem_iff.1 (List.mem_of_getElem? hy))
                      refine vOrd_nil ?_
                      refine Wp.condT rfl rfl ?_
                      refine Wp.region [0, 1, 2, 3, 4, 5, 6, 7] (by kernel_rfl) (by kernel_rfl) ?_
                      refine s_move rfl rfl rfl rfl ?_
                      refine s_move rfl rfl rfl rfl ?_
                      refine s_move rfl rfl rfl rfl ?_
                      refine s_idx (sz := 1) i rfl rfl rfl rfl rfl rfl rfl (by omega) (by omega) (by omega) ?_
                      refine x_ldc rfl rfl rfl rfl rfl (row_cell hvf hcf (strs_get hy)) ?_
                      refine b_cat rfl rfl rfl rfl rfl (by first | omega | (simp; omega)) ?_
                      refine b_cat rfl rfl rfl rfl rfl (by first | omega | (simp; omega)) ?_
                      refine s_assign rfl rfl rfl rfl ?_
                      refine vOrd_nil ?_
                      refine Wp.region [0, 1, 2] (by kernel_rfl) (by kernel_rfl) ?_
                      refine s_move rfl rfl rfl rfl ?_
                      refine a_add (-9223372036854775808) 9223372036854775807 (by decide) rfl rfl rfl rfl rfl (by omega) (by omega) ?_
                      refine s_assign rfl rfl rfl rfl ?_
                      refine vOrd_nil ?_
                      exact ⟨_, _, by omega, (St.of_le' (env := [(1, .v _), (4, .p 4 _ 0), (14, .v _), (15, .v _), (16, .v _), (17, .v _)]) (mem := [(4, _, [_, _, _])]) ⟨rfl, rfl, rfl, rfl, rfl, rfl, trivial⟩ ⟨rfl, trivial⟩), i + 1, _, rfl, hS ▸ acc_note h93 hy, by omega, hvf, rfl⟩
                    · refine vOrd_nil ?_
                      refine Wp.condF rfl rfl ?_
                      refine Wp.skip ?_
                      refine Wp.region [0, 1, 2] (by kernel_rfl) (by kernel_rfl) ?_
                      refine s_move rfl rfl rfl rfl ?_
                      refine a_add (-9223372036854775808) 9223372036854775807 (by decide) rfl rfl rfl rfl rfl (by omega) (by omega) ?_
                      refine s_assign rfl rfl rfl rfl ?_
                      refine vOrd_nil ?_
                      exact ⟨_, _, by omega, (St.of_le' (env := [(1, .v _), (4, .p 4 _ 0), (14, .v _), (15, .v _), (16, .v _), (17, .v _)]) (mem := [(4, _, [_, _, _])]) ⟨rfl, rfl, rfl, rfl, rfl, rfl, trivial⟩ ⟨rfl, trivial⟩), i + 1, _, rfl, hS ▸ acc_last h93 (by omega), by omega, hvf, rfl⟩
                  · have h93 : i ≠ a := by omega
                    refine vOrd_nil ?_
                    refine Wp.condF rfl rfl ?_
                    refine Wp.skip ?_
                    refine Wp.seq ?_
                    refine Wp.old (fun lo => ?_)
                    have tb := hT.later lo
                    clear lo
                    refine Wp.region [0, 1, 2, 3] (by kernel_rfl) (by kernel_rfl) ?_
                    refine s_move rfl rfl rfl rfl ?_
                    refine s_move rfl rfl rfl rfl ?_
                    refine x_len rfl rfl rfl rfl rfl ?_
                    refine p_lss rfl rfl rfl rfl rfl (fun h102 => ?_) (fun h102 => ?_)
                    · obtain ⟨y, hy⟩ := get_line (L := orderK t k) (i := i) (by omega)
                      have hyl : y.length ≤ 4000 := file_line hb ((perm_K t k).mem_iff.1 (List.mem_of_getElem? hy))
                      refine vOrd_nil ?_
                      refine Wp.condT rfl rfl ?_
                      refine Wp.region [0, 1, 2, 3, 4, 5, 6, 7] (by kernel_rfl) (by kernel_rfl) ?_
                      refine s_move rfl rfl rfl rfl ?_
                      refine s_move rfl rfl rfl rfl ?_
                      refine s_move rfl rfl rfl rfl ?_
                      refine s_idx (sz := 1) i rfl rfl rfl rfl rfl rfl rfl (by omega) (by omega) (by omega) ?_
                      refine x_ldc rfl rfl rfl rfl rfl (row_cell hvf hcf (strs_get hy)) ?_
                      refine b_cat rfl rfl rfl rfl rfl (by first | omega | (simp; omega)) ?_
                      refine b_cat rfl rfl rfl rfl rfl (by first | omega | (simp; omega)) ?_
                      refine s_assign rfl rfl rfl rfl ?_
                      refine vOrd_nil ?_
                      refine Wp.region [0, 1, 2] (by kernel_rfl) (by kernel_rfl) ?_
                      refine s_move rfl rfl rfl rfl ?_
                      refine a_add (-9223372036854775808) 9223372036854775807 (by decide) rfl rfl rfl rfl rfl (by omega) (by omega) ?_
                      refine s_assign rfl rfl rfl rfl ?_
                      refine vOrd_nil ?_
                      exact ⟨_, _, by omega, (St.of_le' (env := [(1, .v _), (4, .p 4 _ 0), (14, .v _), (15, .v _), (16, .v _), (17, .v _)]) (mem := [(4, _, [_, _, _])]) ⟨rfl, rfl, rfl, rfl, rfl, rfl, trivial⟩ ⟨rfl, trivial⟩), i + 1, _, rfl, hS ▸ acc_line h93 hy, by omega, hvf, rfl⟩
                    · refine vOrd_nil ?_
                      refine Wp.condF rfl rfl ?_
                      refine Wp.skip ?_
                      refine Wp.region [0, 1, 2] (by kernel_rfl) (by kernel_rfl) ?_
                      refine s_move rfl rfl rfl rfl ?_
                      refine a_add (-9223372036854775808) 9223372036854775807 (by decide) rfl rfl rfl rfl rfl (by omega) (by omega) ?_
                      refine s_assign rfl rfl rfl rfl ?_
                      refine vOrd_nil ?_
                      exact ⟨_, _, by omega, (St.of_le' (env := [(1, .v _), (4, .p 4 _ 0), (14, .v _), (15, .v _), (16, .v _), (17, .v _)]) (mem := [(4, _, [_, _, _])]) ⟨rfl, rfl, rfl, rfl, rfl, rfl, trivial⟩ ⟨rfl, trivial⟩), i + 1, _, rfl, hS ▸ acc_none h93 (by omega) (by omega), by omega, hvf, rfl⟩
                · have hSl := acc_len (O := orderK t k) (m := m) (a := a) (i := i)
                  rw [← hS] at hSl
                  have hp : parseL S = (t, 0, 0) := by rw [hS, acc_end (by omega) (by omega)]; exact orderK_notes hb k a hm10 hml
                  refine vOrd_nil ?_
                  refine Wp.condF rfl rfl ?_
                  refine Wp.exit ?_
                  refine Wp.seq ?_
                  refine Wp.old (fun lv => ?_)
                  have hv2 := hv.later lv
                  clear lv
                  refine Wp.old (fun lo => ?_)
                  have tb := hT.later lo
                  clear lo
                  refine Wp.region [0, 1, 2, 3, 4, 5, 6, 7, 8, 9] (by kernel_rfl) (by kernel_rfl) ?_
                  refine s_move rfl rfl rfl rfl ?_
                  refine s_callT rfl rfl rfl (by kernel_rfl) rfl (parse_at hp (by omega) tb) ?_
                  rintro v w291 ⟨va23, vc23, rfl, hq⟩ lw291
                  replace tb := tb.later lw291
                  try replace hv2 := hv2.later lw291
                  try replace hq := hq.later lw291
                  refine s_move rfl rfl rfl rfl ?_
                  refine s_extract rfl rfl rfl rfl rfl ?_
                  refine s_extract rfl rfl rfl rfl rfl ?_
                  refine s_extract rfl rfl rfl rfl rfl ?_
                  refine s_alloc rfl rfl rfl rfl rfl (fun bk292 w292 kb292 lw292 => ?_)
                  try have k18hv2 := fun w1 w2 => EntAt.apart hv2 kb292 (w1 := w1) (w2 := w2)
                  try replace hv2 := hv2.later lw292
                  try have k18hq := fun w1 w2 => EntAt.apart hq kb292 (w1 := w1) (w2 := w2)
                  try replace hq := hq.later lw292
                  refine s_store rfl rfl rfl rfl rfl rfl rfl (fun w293 sw293 vw293 => ?_)
                  try replace hv2 := k18hv2 _ _ hv2 sw293
                  try replace hq := k18hq _ _ hq sw293
                  refine s_assign rfl rfl rfl rfl ?_
                  refine s_assign rfl rfl rfl rfl ?_
                  refine vOrd_nil ?_
                  refine Wp.seq ?_
                  refine Wp.old (fun lo => ?_)
                  have tb := hT.later lo
                  clear lo
                  refine Wp.region [0, 1, 2, 3, 4, 5, 6, 7, 8, 9, 10, 11, 12, 13, 14] (by kernel_rfl) (by kernel_rfl) ?_
                  refine s_callT rfl rfl rfl (by kernel_rfl) rfl (lanswers_any tb) ?_
                  rintro v w294 rfl lw294
                  replace tb := tb.later lw294
                  try replace hv2 := hv2.later lw294
                  try replace hq := hq.later lw294
                  refine s_move rfl rfl rfl rfl ?_
                  refine s_move rfl rfl rfl rfl ?_
                  refine t_eql rfl rfl rfl rfl rfl (by omega) ?_
                  refine s_pick rfl rfl rfl rfl rfl ?_
                  refine s_move rfl rfl rfl rfl ?_
                  refine s_move rfl rfl rfl rfl ?_
                  refine t_eql rfl rfl rfl rfl rfl (by omega) ?_
                  refine s_pick rfl rfl rfl rfl rfl ?_
                  refine s_move rfl rfl rfl rfl ?_
                  refine s_load rfl rfl rfl rfl rfl rfl rfl ?_
                  refine s_load rfl rfl rfl rfl rfl rfl rfl ?_
                  refine s_callT rfl rfl rfl (by kernel_rfl) rfl (tsame_any t hu he hv2 hq (by omega)) ?_
                  rintro v w295 rfl lw295
                  replace tb := tb.later lw295
                  try replace hv2 := hv2.later lw295
                  try replace hq := hq.later lw295
                  refine s_pick rfl rfl rfl rfl rfl ?_
                  refine s_assign rfl rfl rfl rfl ?_
                  refine vOrd_nil ?_
                  refine Wp.ret ⟨.inr rfl, fun lW => ⟨_, res_tmp (P := Tryd.prog) rfl rfl, _, rfl, ?_, lW⟩⟩
                  clear lW
                  rfl
  | false =>
    refine calls_Wp (args := [_, _, _, _]) (n := 130) Tryd.func7 rfl rfl (by simp) ?_
    refine Wp.seq ?_
    refine Wp.region [0, 1] (by kernel_rfl) (by kernel_rfl) ?_
    refine s_box rfl rfl rfl rfl rfl rfl (fun bk1 w1 kb1 lw1 => ?_)
    try have k4hv := fun w1 w2 => EntAt.apart hv kb1 (w1 := w1) (w2 := w2)
    try replace hv := hv.later lw1
    refine s_assign rfl rfl rfl rfl ?_
    refine vOrd_nil ?_
    refine Wp.seq ?_
    refine Wp.seq ?_
    refine Wp.old (fun lo => ?_)
    have tb := hT.later lo
    clear lo
    refine Wp.region [0, 1, 2, 3, 4, 5, 6] (by kernel_rfl) (by kernel_rfl) ?_
    refine s_load rfl rfl rfl rfl rfl rfl rfl ?_
    refine s_callT rfl rfl rfl (by kernel_rfl) rfl (rtable_no hb hu he hv) ?_
    rintro v w2 rfl lw2
    replace tb := tb.later lw2
    try replace hv := hv.later lw2
    refine s_move rfl rfl rfl rfl ?_
    refine s_extract rfl rfl rfl rfl rfl ?_
    refine s_extract rfl rfl rfl rfl rfl ?_
    refine s_assign rfl rfl rfl rfl ?_
    refine s_assign rfl rfl rfl rfl ?_
    refine vOrd_nil ?_
    refine Wp.seq ?_
    refine Wp.old (fun lo => ?_)
    have tb := hT.later lo
    clear lo
    refine Wp.region [0, 1, 2, 3, 4, 5, 6] (by kernel_rfl) (by kernel_rfl) ?_
    refine s_move rfl rfl rfl rfl ?_
    refine s_not rfl rfl rfl rfl ?_
    refine s_move rfl rfl rfl rfl ?_
    refine s_skip rfl rfl rfl ?_
    refine s_skip rfl rfl rfl ?_
    refine s_skip rfl rfl rfl ?_
    refine s_pick rfl rfl rfl rfl rfl ?_
    refine vOrd_nil ?_
    refine Wp.condT rfl rfl ?_
    refine Wp.seq ?_
    refine Wp.old (fun lo => ?_)
    have tb := hT.later lo
    clear lo
    refine Wp.region [0, 1] (by kernel_rfl) (by kernel_rfl) ?_
    refine s_callT rfl rfl rfl (by kernel_rfl) rfl (lanswers_any tb) ?_
    rintro v w3 rfl lw3
    replace tb := tb.later lw3
    try replace hv := hv.later lw3
    refine s_assign rfl rfl rfl rfl ?_
    refine vOrd_nil ?_
    refine Wp.ret ⟨.inr rfl, fun lW => ⟨_, res_tmp (P := Tryd.prog) rfl rfl, _, rfl, ?_, lW⟩⟩
    clear lW
    rfl
end Go.Proofs.YthjgilocbfhffaaDoor
