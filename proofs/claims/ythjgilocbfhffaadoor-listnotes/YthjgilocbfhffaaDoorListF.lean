/-
  Leap second files: the reference's Parse. Of any text of no more than 2^47 bytes.
-/
import Derived.Test.YthjgilocbfhffaaDoorListE
namespace Go.Proofs.YthjgilocbfhffaaDoor
open Go.RowKit
set_option maxRecDepth 100000

def seenC (F : Int → Int) : List Value := [.int .i64 0, .int .i64 (F 1), .int .i64 (F 2), .int .i64 (F 3), .int .i64 (F 4), .int .i64 (F 5)]
theorem all_of4 {p : Nat → Prop} {env : List (Nat × SV)} {k1 k2 k3 k4 a b c d : Nat} {l1 l2 l3 l4 : List Value} (h1 : p a) (h2 : p b) (h3 : p c) (h4 : p d) : AllMem p (St.of env [(k1, a, l1), (k2, b, l2), (k3, c, l3), (k4, d, l4)]) := AllMem.of (by
  simp only [AllL]
  exact ⟨h1, h2, h3, h4, trivial⟩)
theorem kind_is {k : Int} (h1 : 1 ≤ k) (h2 : k ≤ 5) : k = 1 ∨ k = 2 ∨ k = 3 ∨ k = 4 ∨ k = 5 := by omega
theorem read_seen {P : Program} {t : TypeId} (ht : isAggT P t = some false) (F : Int → Int) {k : Int} (h1 : 1 ≤ k) (h2 : k ≤ 5) : readOf P t (seenC F) (0 + k.toNat * 1) = some (.int .i64 (F k)) := by
  rw [read_one ht]
  rcases kind_is h1 h2 with rfl | rfl | rfl | rfl | rfl <;> rfl
theorem write_seen {P : Program} {t : TypeId} (hs : (P.info? t).map (·.size) = some 1) (F : Int → Int) {k : Int} (h1 : 1 ≤ k) (h2 : k ≤ 5) (n : Int) : writeOf P t (seenC F) (0 + k.toNat * 1) (.int .i64 n) = some (seenC (setF F k n)) := by
  rw [write_one hs rfl rfl (by simp [seenC]; omega)]
  rcases kind_is h1 h2 with rfl | rfl | rfl | rfl | rfl <;> rfl
theorem seen_zero {F : Int → Int} {s : PS} (h : SeenOf F s) {k : Int} (h1 : 2 ≤ k) (h2 : k ≤ 4) (h0 : F k ≤ 0) : F k = 0 := by
  obtain ⟨s2, s3, s4, _⟩ := h
  have : k = 2 ∨ k = 3 ∨ k = 4 := by omega
  rcases this with rfl | rfl | rfl <;> omega
theorem ints32_one (ws : List Int) : (ws.map (Value.int .u32)).all (·.oneCell') = true := by
  rw [List.all_map, List.all_eq_true]; intro x _; rfl
theorem ws_eq {a b : List Int} (ha : a.length = 5) (hb : b.length = 5) (h : ∀ m, m < 5 → a[m]? = b[m]?) : a = b := by
  apply List.ext_getElem?
  intro m
  rcases Nat.lt_or_ge m 5 with q | q
  · exact h m q
  · rw [List.getElem?_eq_none (by omega), List.getElem?_eq_none (by omega)]

set_option maxHeartbeats 4000000 in
theorem rparse_any (x : List UInt8) (hx0 : x.length ≤ 140737488351232) (w : World) : Calls Tryd.prog 18 #[.string ⟨⟨x⟩⟩] w fun e w' => ∃ r, e = .returned r ∧ (∃ v, r = .tuple #[tbV (parseL x).1 v, .int .i64 (parseL x).2.1, .int .i64 (parseL x).2.2] ∧ EntAt w' v (parseL x).1.es) ∧ Below w.heap.size w w' := by
  refine calls_Wp (args := [_]) (n := 142) Tryd.func18 rfl rfl (by simp) ?_
  refine Wp.seq ?_
  refine Wp.region [0, 1, 2] (by kernel_rfl) (by kernel_rfl) ?_
  refine s_allocS ([.int .i64 0, .int .i64 0, .slice none 0 0]) rfl rfl rfl rfl (by kernel_rfl) (fun b2 wb2 kb2 lb2 => ?_)
  refine s_assign rfl rfl rfl rfl ?_
  refine s_assign rfl rfl rfl rfl ?_
  refine vOrd_nil ?_
  refine Wp.seq ?_
  refine Wp.seq ?_
  refine Wp.region [0, 1, 2] (by kernel_rfl) (by kernel_rfl) ?_
  refine s_move rfl rfl rfl rfl ?_
  refine b_len rfl rfl rfl rfl rfl ?_
  refine p_gtr rfl rfl rfl rfl rfl (fun h17 => ?_) (fun h17 => ?_)
  · refine vOrd_nil ?_
    refine Wp.condT rfl rfl ?_
    refine Wp.seq ?_
    refine Wp.region [0, 1, 2, 3] (by kernel_rfl) (by kernel_rfl) ?_
    refine s_build rfl rfl rfl rfl rfl (by kernel_rfl) ?_
    refine s_store rfl rfl rfl rfl rfl rfl rfl (fun w2 sw2 vw2 => ?_)
    refine s_assign rfl rfl rfl rfl ?_
    refine s_assign rfl rfl rfl rfl ?_
    refine vOrd_nil ?_
    refine Wp.ret ⟨.inr rfl, fun lW => ⟨_, ⟨_, _, _, res_cell rfl rfl rfl rfl, res_tmp (P := Tryd.prog) rfl rfl, res_tmp (P := Tryd.prog) rfl rfl, rfl⟩, _, rfl, ?_, lW⟩⟩
    clear lW
    rw [parse_over (by omega)]
    exact ⟨_, rfl, EntAt.nil _⟩
  · have hx : x.length ≤ 65536 := by omega
    have hlle := lines_len x
    refine vOrd_nil ?_
    refine Wp.condF rfl rfl ?_
    refine Wp.skip ?_
    refine Wp.seq ?_
    refine Wp.region [0] (by kernel_rfl) (by kernel_rfl) ?_
    refine s_allocS ([.int .i64 0, .int .i64 0, .slice none 0 0]) rfl rfl rfl rfl (by kernel_rfl) (fun b5 wb5 kb5 lb5 => ?_)
    refine vOrd_nil ?_
    refine Wp.seq ?_
    refine Wp.region [0] (by kernel_rfl) (by kernel_rfl) ?_
    refine s_allocS (z5.map (Value.int .u32)) rfl rfl rfl rfl (by kernel_rfl) (fun b6 wb6 kb6 lb6 => ?_)
    refine vOrd_nil ?_
    refine Wp.seq ?_
    refine Wp.var (h := 2) rfl (fun q2 => ?_)
    refine Wp.var (h := 5) rfl (fun q5 => ?_)
    refine Wp.var (h := 6) rfl (fun q6 => ?_)
    have q2 := q2.lt
    have q5 := q5.lt
    have q6 := q6.lt
    refine Wp.region [0, 1, 2] (by kernel_rfl) (by kernel_rfl) ?_
    refine s_build rfl rfl rfl rfl rfl (by kernel_rfl) ?_
    refine s_allocS ([.int .i64 0, .int .i64 0, .int .i64 0, .int .i64 0, .int .i64 0, .int .i64 0]) rfl rfl rfl rfl (by kernel_rfl) (fun b7 wb7 kb7 lb7 => ?_)
    refine s_store rfl rfl rfl rfl rfl rfl rfl (fun w6 sw6 vw6 => ?_)
    refine vOrd_nil ?_
    refine Wp.seq ?_
    refine Wp.var (h := 7) rfl (fun q7 => ?_)
    have q7 := q7.lt
    refine Wp.region [0, 1, 2] (by kernel_rfl) (by kernel_rfl) ?_
    refine s_move rfl rfl rfl rfl ?_
    refine s_callT rfl rfl rfl (by kernel_rfl) rfl (reflines_any x (by omega) _) ?_
    rintro v w7 hls lw7
    obtain ⟨la, lc, rfl, hln0⟩ := lines_own hls
    obtain ⟨B0, hB0⟩ : ∃ B0, B0 = w7.heap.size := ⟨_, rfl⟩
    have hB7 : b7 < B0 := by have := lw7.size; omega
    have hln : 0 < (linesL x).length → ∃ g cs, la = some ⟨g, 0, none⟩ ∧ Var w7 g cs ∧ cs.take (linesL x).length = strsV (linesL x) ∧ b7 < g ∧ g < B0 := fun h => by
      obtain ⟨g, cs, h1, h2, h3, h4⟩ := hln0 h
      exact ⟨g, cs, h1, h2, h3, by omega, by have := h2.lt; omega⟩
    clear hln0
    refine s_assign rfl rfl rfl rfl ?_
    refine vOrd_nil ?_
    refine Wp.seq ?_
    refine Wp.seq ?_
    refine Wp.region [0] (by kernel_rfl) (by kernel_rfl) ?_
    refine s_assign rfl rfl rfl rfl ?_
    refine vOrd_nil ?_
    refine Wp.block ?_
    refine Wp.loop (fun k st W => ∃ (i : Nat) (p : Int) (s : PS) (F : Int → Int) (ea : Option Addr) (ec : Nat), st = St.of [(2, .p 2 b2 0), (5, .p 5 b5 0), (6, .p 6 b6 0), (7, .p 7 b7 0), (8, .v (.slice la (linesL x).length lc)), (9, .v (.int .i64 p))] [(2, b2, [.int .i64 0, .int .i64 0, .slice none 0 0]), (5, b5, [.int .i64 s.t.u, .int .i64 s.t.e, .slice ea s.t.es.length ec]), (6, b6, s.ws.map (Value.int .u32)), (7, b7, seenC F)] ∧ p = i ∧ i ≤ (linesL x).length ∧ runP ((linesL x).drop i) i s = runP (linesL x) 0 PS.zero ∧ s.Ok i ∧ SeenOf F s ∧ W.ownsRow B0 43 2 (.slice ea s.t.es.length ec) s.t.es.length (entC s.t.es) ∧ B0 ≤ W.heap.size ∧ (0 < (linesL x).length → ∃ g cs, la = some ⟨g, 0, none⟩ ∧ Var W g cs ∧ cs.take (linesL x).length = strsV (linesL x) ∧ b7 < g ∧ g < B0) ∧ k = (linesL x).length - i) ?_ ?_
    · exact ⟨_, _, (St.of_le' (env := [(2, .p 2 _ 0), (5, .p 5 _ 0), (6, .p 6 _ 0), (7, .p 7 _ 0), (8, .v _), (9, .v _)]) (mem := [(2, _, [_, _, _]), (5, _, [_, _, _]), (6, _, _), (7, _, _)]) ⟨rfl, rfl, rfl, rfl, rfl, rfl, trivial⟩ ⟨rfl, rfl, rfl, rfl, trivial⟩), 0, _, PS.zero, (fun _ => 0), none, 0, rfl, rfl, Nat.zero_le _, rfl, PS.Ok.zero, ⟨rfl, rfl, rfl, rfl⟩, ⟨rfl, .inl ⟨rfl, rfl⟩⟩, by omega, hln, rfl⟩
    · rintro k st w8 ⟨i, p, s, F, ea, ec, rfl, rfl, hi, hrun, hso, hF, hown, hsz, hln, rfl⟩
      refine Wp.seq ?_
      refine Wp.seq ?_
      refine Wp.region [0, 1, 2, 3] (by kernel_rfl) (by kernel_rfl) ?_
      refine s_move rfl rfl rfl rfl ?_
      refine s_move rfl rfl rfl rfl ?_
      refine x_len rfl rfl rfl rfl rfl ?_
      refine p_lss rfl rfl rfl rfl rfl (fun h25 => ?_) (fun h25 => ?_)
      · obtain ⟨g, cs, rfl, hvl, hcs, hg1, hg2⟩ := hln (by omega)
        obtain ⟨l, hl⟩ := get_line (L := linesL x) (i := i) (by omega)
        have hll := lines_each x l (List.mem_of_getElem? hl)
        refine vOrd_nil ?_
        refine Wp.condT rfl rfl ?_
        refine Wp.skip ?_
        refine Wp.seq ?_
        refine Wp.block ?_
        refine Wp.seq ?_
        refine Wp.region [0, 1, 2, 3, 4, 5, 6, 7, 8, 9, 10] (by kernel_rfl) (by kernel_rfl) ?_
        refine s_move rfl rfl rfl rfl ?_
        refine s_move rfl rfl rfl rfl ?_
        refine s_idx (sz := 1) i rfl rfl rfl rfl rfl rfl rfl (by omega) (by omega) (by omega) ?_
        refine x_ldc rfl rfl rfl rfl rfl (line_cell hvl hcs hl) ?_
        refine s_callT rfl rfl rfl (by kernel_rfl) rfl (refscanV l (by omega) _) ?_
        rintro v w11 ⟨k, a, b, v0, v1, v2, v3, v4, rfl, hq⟩ lw11
        replace hown := own_later hown lw11
        replace hsz := Nat.le_trans hsz lw11.size
        replace hvl := hvl.later lw11
        rcases Bool.eq_false_or_eq_true ((scanP l).isSome) with h33 | h33
        · rw [h33]
          obtain ⟨q, hq1⟩ := Option.isSome_iff_exists.1 h33
          have hqe := hq q hq1
          subst hqe
          clear hq
          have ho := scanP_ok hq1
          have hkd := ho.kind
          have hab := ho.a
          have hbb := ho.b
          simp only at hkd hab hbb
          refine s_move rfl rfl rfl rfl ?_
          refine s_extract rfl rfl rfl rfl rfl ?_
          refine s_extract rfl rfl rfl rfl rfl ?_
          refine s_alloc rfl rfl rfl rfl rfl (fun bk12 w12 kb12 lw12 => ?_)
          have hn10 := own_ne hown (.inr kb12)
          have hm10 : g ≠ bk12 := by have := hvl.lt; omega
          replace hown := own_later hown lw12
          replace hsz := Nat.le_trans hsz lw12.size
          replace hvl := hvl.later lw12
          refine s_store rfl rfl rfl rfl rfl rfl rfl (fun w13 sw13 vw13 => ?_)
          replace hown := own_sto hown sw13 hn10
          replace hsz := Nat.le_trans hsz (Nat.le_of_eq sw13.size.symm)
          replace hvl := hvl.sto sw13 hm10
          refine s_assign rfl rfl rfl rfl ?_
          refine vOrd_nil ?_
          refine Wp.seq ?_
          refine Wp.seq ?_
          refine Wp.region [0, 1, 2, 3, 4, 5, 6, 7, 8, 9, 10, 11, 12, 13, 14, 15, 16, 17, 18] (by kernel_rfl) (by kernel_rfl) ?_
          refine s_move rfl rfl rfl rfl ?_
          refine s_not rfl rfl rfl rfl ?_
          refine s_move rfl rfl rfl rfl ?_
          refine s_field 0 rfl rfl rfl rfl rfl ?_
          refine s_load rfl rfl rfl rfl rfl rfl rfl ?_
          refine p_geq rfl rfl rfl rfl rfl (fun h41 => ?_) (fun h41 => ?_)
          · refine s_move rfl rfl rfl rfl ?_
            refine s_field 0 rfl rfl rfl rfl rfl ?_
            refine s_load rfl rfl rfl rfl rfl rfl rfl ?_
            refine p_leq rfl rfl rfl rfl rfl (fun h45 => ?_) (fun h45 => ?_)
            · refine s_pick rfl rfl rfl rfl rfl ?_
              refine s_move rfl rfl rfl rfl ?_
              refine s_field 0 rfl rfl rfl rfl rfl ?_
              refine s_load rfl rfl rfl rfl rfl rfl rfl ?_
              refine s_idxO (sz := 1) (0 + (k.toNat) * 1) rfl rfl rfl rfl rfl rfl rfl (by omega) (by omega) (by omega) ?_
              refine s_loadS rfl rfl rfl rfl rfl (read_seen rfl F (by omega) (by omega)) ?_
              refine p_gtr rfl rfl rfl rfl rfl (fun h52 => ?_) (fun h52 => ?_)
              · refine s_pick rfl rfl rfl rfl rfl ?_
                refine s_pick rfl rfl rfl rfl rfl ?_
                refine vOrd_nil ?_
                refine Wp.condT rfl rfl ?_
                refine Wp.seq ?_
                refine Wp.region [0, 1, 2, 3, 4, 5] (by kernel_rfl) (by kernel_rfl) ?_
                refine s_build rfl rfl rfl rfl rfl (by kernel_rfl) ?_
                refine s_move rfl rfl rfl rfl ?_
                refine a_add (-9223372036854775808) 9223372036854775807 (by decide) rfl rfl rfl rfl rfl (by omega) (by omega) ?_
                refine s_store rfl rfl rfl rfl rfl rfl rfl (fun w15 sw15 vw15 => ?_)
                replace hown := own_sto hown sw15 (own_ne hown (.inl (by omega)))
                replace hsz := Nat.le_trans hsz (Nat.le_of_eq sw15.size.symm)
                replace hvl := hvl.sto sw15 (by omega)
                refine s_assign rfl rfl rfl rfl ?_
                refine s_assign rfl rfl rfl rfl ?_
                refine vOrd_nil ?_
                refine Wp.ret ⟨.inr rfl, fun lW => ⟨_, ⟨_, _, _, res_cell rfl rfl rfl rfl, res_tmp (P := Tryd.prog) rfl rfl, res_tmp (P := Tryd.prog) rfl rfl, rfl⟩, _, rfl, ?_, lW⟩⟩
                clear lW
                rw [parse_no hx hrun hl (step_seen hF hq1 (by omega) (by omega) (by omega))]
                exact ⟨_, rfl, EntAt.nil _⟩
              · have hF0 := seen_zero hF (by omega) (by omega) h52
                refine s_pick rfl rfl rfl rfl rfl ?_
                refine s_pick rfl rfl rfl rfl rfl ?_
                refine vOrd_nil ?_
                refine Wp.condF rfl rfl ?_
                refine Wp.skip ?_
                refine Wp.seq ?_
                refine Wp.region [0, 1, 2, 3, 4, 5] (by kernel_rfl) (by kernel_rfl) ?_
                refine s_field 0 rfl rfl rfl rfl rfl ?_
                refine s_load rfl rfl rfl rfl rfl rfl rfl ?_
                refine s_move rfl rfl rfl rfl ?_
                refine a_add (-9223372036854775808) 9223372036854775807 (by decide) rfl rfl rfl rfl rfl (by omega) (by omega) ?_
                rw [show (i : Int) + 1 = ((i + 1 : Nat) : Int) by omega]
                refine s_idxO (sz := 1) (0 + (k.toNat) * 1) rfl rfl rfl rfl rfl rfl rfl (by omega) (by omega) (by omega) ?_
                refine s_storeS rfl rfl rfl rfl rfl rfl (write_seen rfl F (by omega) (by omega) _) (fun ws13 ss13 vs13 => ?_)
                replace hown := own_sto hown ss13 (own_ne hown (.inl (by omega)))
                replace hsz := Nat.le_trans hsz (Nat.le_of_eq ss13.size.symm)
                replace hvl := hvl.sto ss13 (by omega)
                refine vOrd_nil ?_
                refine Wp.seq ?_
                refine Wp.region [0, 1] (by kernel_rfl) (by kernel_rfl) ?_
                refine s_field 0 rfl rfl rfl rfl rfl ?_
                refine s_load rfl rfl rfl rfl rfl rfl rfl ?_
                refine vOrd_nil ?_
                refine Wp.block ?_
                refine Wp.seq ?_
                refine Wp.region [0, 1] (by kernel_rfl) (by kernel_rfl) ?_
                refine p_eql rfl rfl rfl rfl rfl (fun h66 => ?_) (fun h66 => ?_)
                · have hst := step_2 (n := i + 1) hF hq1 h66 hF0
                  refine s_assign rfl rfl rfl rfl ?_
                  refine vOrd_nil ?_
                  refine Wp.condT rfl rfl ?_
                  refine Wp.region [0, 1, 2, 3] (by kernel_rfl) (by kernel_rfl) ?_
                  refine s_field 1 rfl rfl rfl rfl rfl ?_
                  refine s_load rfl rfl rfl rfl rfl rfl rfl ?_
                  refine s_field 0 rfl rfl rfl rfl rfl ?_
                  refine s_store rfl rfl rfl rfl rfl rfl rfl (fun w22 sw22 vw22 => ?_)
                  replace hown := own_sto hown sw22 (own_ne hown (.inl (by omega)))
                  replace hsz := Nat.le_trans hsz (Nat.le_of_eq sw22.size.symm)
                  replace hvl := hvl.sto sw22 (by omega)
                  refine vOrd_nil ?_
                  refine Wp.region [0, 1, 2] (by kernel_rfl) (by kernel_rfl) ?_
                  refine s_move rfl rfl rfl rfl ?_
                  refine a_add (-9223372036854775808) 9223372036854775807 (by decide) rfl rfl rfl rfl rfl (by omega) (by omega) ?_
                  refine s_assign rfl rfl rfl rfl ?_
                  refine vOrd_nil ?_
                  exact ⟨_, _, by omega, (St.of_le' (env := [(2, .p 2 _ 0), (5, .p 5 _ 0), (6, .p 6 _ 0), (7, .p 7 _ 0), (8, .v _), (9, .v _)]) (mem := [(2, _, [_, _, _]), (5, _, [_, _, _]), (6, _, _), (7, _, _)]) ⟨rfl, rfl, rfl, rfl, rfl, rfl, trivial⟩ ⟨rfl, rfl, rfl, rfl, trivial⟩), i + 1, _, { s with a2 := i + 1, t := { s.t with u := a } }, setF F k ((i + 1 : Nat) : Int), _, _, rfl, by omega, by omega, (run_ok hl hst).symm.trans hrun, hso.step (by omega) hst, seen_step hF hq1 hst, hown, hsz, fun _ => ⟨g, cs, rfl, hvl, hcs, hg1, hg2⟩, rfl⟩
                · refine s_assign rfl rfl rfl rfl ?_
                  refine vOrd_nil ?_
                  refine Wp.condF rfl rfl ?_
                  refine Wp.seq ?_
                  refine Wp.region [0, 1] (by kernel_rfl) (by kernel_rfl) ?_
                  refine p_eql rfl rfl rfl rfl rfl (fun h71 => ?_) (fun h71 => ?_)
                  · have hst := step_3 (n := i + 1) hF hq1 h71 hF0
                    refine s_assign rfl rfl rfl rfl ?_
                    refine vOrd_nil ?_
                    refine Wp.condT rfl rfl ?_
                    refine Wp.region [0, 1, 2, 3] (by kernel_rfl) (by kernel_rfl) ?_
                    refine s_field 1 rfl rfl rfl rfl rfl ?_
                    refine s_load rfl rfl rfl rfl rfl rfl rfl ?_
                    refine s_field 1 rfl rfl rfl rfl rfl ?_
                    refine s_store rfl rfl rfl rfl rfl rfl rfl (fun w23 sw23 vw23 => ?_)
                    replace hown := own_sto hown sw23 (own_ne hown (.inl (by omega)))
                    replace hsz := Nat.le_trans hsz (Nat.le_of_eq sw23.size.symm)
                    replace hvl := hvl.sto sw23 (by omega)
                    refine vOrd_nil ?_
                    refine Wp.region [0, 1, 2] (by kernel_rfl) (by kernel_rfl) ?_
                    refine s_move rfl rfl rfl rfl ?_
                    refine a_add (-9223372036854775808) 9223372036854775807 (by decide) rfl rfl rfl rfl rfl (by omega) (by omega) ?_
                    refine s_assign rfl rfl rfl rfl ?_
                    refine vOrd_nil ?_
                    exact ⟨_, _, by omega, (St.of_le' (env := [(2, .p 2 _ 0), (5, .p 5 _ 0), (6, .p 6 _ 0), (7, .p 7 _ 0), (8, .v _), (9, .v _)]) (mem := [(2, _, [_, _, _]), (5, _, [_, _, _]), (6, _, _), (7, _, _)]) ⟨rfl, rfl, rfl, rfl, rfl, rfl, trivial⟩ ⟨rfl, rfl, rfl, rfl, trivial⟩), i + 1, _, { s with a3 := i + 1, t := { s.t with e := a } }, setF F k ((i + 1 : Nat) : Int), _, _, rfl, by omega, by omega, (run_ok hl hst).symm.trans hrun, hso.step (by omega) hst, seen_step hF hq1 hst, hown, hsz, fun _ => ⟨g, cs, rfl, hvl, hcs, hg1, hg2⟩, rfl⟩
                  · refine s_assign rfl rfl rfl rfl ?_
                    refine vOrd_nil ?_
                    refine Wp.condF rfl rfl ?_
                    refine Wp.seq ?_
                    refine Wp.region [0, 1] (by kernel_rfl) (by kernel_rfl) ?_
                    refine t_eql rfl rfl rfl rfl rfl (by omega) ?_
                    refine s_assign rfl rfl rfl rfl ?_
                    refine vOrd_nil ?_
                    refine Wp.condT rfl rfl ?_
                    have hst := step_4 (n := i + 1) hF hq1 (by omega) hF0
                    refine Wp.region [0, 1, 2] (by kernel_rfl) (by kernel_rfl) ?_
                    refine s_field 3 rfl rfl rfl rfl rfl ?_
                    refine s_load rfl rfl rfl rfl rfl rfl rfl ?_
                    refine s_storeS rfl rfl rfl rfl rfl rfl (write_all (n := 5) (xs := [.int .u32 v0, .int .u32 v1, .int .u32 v2, .int .u32 v3, .int .u32 v4]) rfl (by rw [List.length_map, hso.len]) rfl rfl) (fun ws20 ss20 vs20 => ?_)
                    replace hown := own_sto hown ss20 (own_ne hown (.inl (by omega)))
                    replace hsz := Nat.le_trans hsz (Nat.le_of_eq ss20.size.symm)
                    replace hvl := hvl.sto ss20 (by omega)
                    refine vOrd_nil ?_
                    refine Wp.region [0, 1, 2] (by kernel_rfl) (by kernel_rfl) ?_
                    refine s_move rfl rfl rfl rfl ?_
                    refine a_add (-9223372036854775808) 9223372036854775807 (by decide) rfl rfl rfl rfl rfl (by omega) (by omega) ?_
                    refine s_assign rfl rfl rfl rfl ?_
                    refine vOrd_nil ?_
                    exact ⟨_, _, by omega, (St.of_le' (env := [(2, .p 2 _ 0), (5, .p 5 _ 0), (6, .p 6 _ 0), (7, .p 7 _ 0), (8, .v _), (9, .v _)]) (mem := [(2, _, [_, _, _]), (5, _, [_, _, _]), (6, _, _), (7, _, _)]) ⟨rfl, rfl, rfl, rfl, rfl, rfl, trivial⟩ ⟨rfl, rfl, rfl, rfl, trivial⟩), i + 1, _, { s with a4 := i + 1, ws := [v0, v1, v2, v3, v4] }, setF F k ((i + 1 : Nat) : Int), _, _, rfl, by omega, by omega, (run_ok hl hst).symm.trans hrun, hso.step (by omega) hst, seen_step hF hq1 hst, hown, hsz, fun _ => ⟨g, cs, rfl, hvl, hcs, hg1, hg2⟩, rfl⟩
            · refine s_pick rfl rfl rfl rfl rfl ?_
              refine s_move rfl rfl rfl rfl ?_
              refine s_skip rfl rfl rfl ?_
              refine s_skip rfl rfl rfl ?_
              refine s_skip rfl rfl rfl ?_
              refine s_skip rfl rfl rfl ?_
              refine s_skip rfl rfl rfl ?_
              refine s_pick rfl rfl rfl rfl rfl ?_
              refine s_pick rfl rfl rfl rfl rfl ?_
              refine vOrd_nil ?_
              refine Wp.condF rfl rfl ?_
              refine Wp.skip ?_
              refine Wp.seq ?_
              refine Wp.region [0, 1, 2, 3, 4, 5] (by kernel_rfl) (by kernel_rfl) ?_
              refine s_field 0 rfl rfl rfl rfl rfl ?_
              refine s_load rfl rfl rfl rfl rfl rfl rfl ?_
              refine s_move rfl rfl rfl rfl ?_
              refine a_add (-9223372036854775808) 9223372036854775807 (by decide) rfl rfl rfl rfl rfl (by omega) (by omega) ?_
              rw [show (i : Int) + 1 = ((i + 1 : Nat) : Int) by omega]
              refine s_idxO (sz := 1) (0 + (k.toNat) * 1) rfl rfl rfl rfl rfl rfl rfl (by omega) (by omega) (by omega) ?_
              refine s_storeS rfl rfl rfl rfl rfl rfl (write_seen rfl F (by omega) (by omega) _) (fun ws13 ss13 vs13 => ?_)
              replace hown := own_sto hown ss13 (own_ne hown (.inl (by omega)))
              replace hsz := Nat.le_trans hsz (Nat.le_of_eq ss13.size.symm)
              replace hvl := hvl.sto ss13 (by omega)
              refine vOrd_nil ?_
              refine Wp.seq ?_
              refine Wp.region [0, 1] (by kernel_rfl) (by kernel_rfl) ?_
              refine s_field 0 rfl rfl rfl rfl rfl ?_
              refine s_load rfl rfl rfl rfl rfl rfl rfl ?_
              refine vOrd_nil ?_
              refine Wp.block ?_
              refine Wp.seq ?_
              refine Wp.region [0, 1] (by kernel_rfl) (by kernel_rfl) ?_
              refine f_eql rfl rfl rfl rfl rfl (by omega) ?_
              refine s_assign rfl rfl rfl rfl ?_
              refine vOrd_nil ?_
              refine Wp.condF rfl rfl ?_
              refine Wp.seq ?_
              refine Wp.region [0, 1] (by kernel_rfl) (by kernel_rfl) ?_
              refine f_eql rfl rfl rfl rfl rfl (by omega) ?_
              refine s_assign rfl rfl rfl rfl ?_
              refine vOrd_nil ?_
              refine Wp.condF rfl rfl ?_
              refine Wp.seq ?_
              refine Wp.region [0, 1] (by kernel_rfl) (by kernel_rfl) ?_
              refine f_eql rfl rfl rfl rfl rfl (by omega) ?_
              refine s_assign rfl rfl rfl rfl ?_
              refine vOrd_nil ?_
              refine Wp.condF rfl rfl ?_
              refine Wp.seq ?_
              refine Wp.region [0, 1] (by kernel_rfl) (by kernel_rfl) ?_
              refine t_eql rfl rfl rfl rfl rfl (by omega) ?_
              refine s_assign rfl rfl rfl rfl ?_
              refine vOrd_nil ?_
              refine Wp.condT rfl rfl ?_
              refine Wp.seq ?_
              refine Wp.region [0, 1, 2, 3, 4, 5, 6] (by kernel_rfl) (by kernel_rfl) ?_
              refine s_field 1 rfl rfl rfl rfl rfl ?_
              refine s_load rfl rfl rfl rfl rfl rfl rfl ?_
              refine s_field 2 rfl rfl rfl rfl rfl ?_
              refine s_load rfl rfl rfl rfl rfl rfl rfl ?_
              refine s_build rfl rfl rfl rfl rfl (by kernel_rfl) ?_
              refine s_alloc rfl rfl rfl rfl rfl (fun bk34 w34 kb34 lw34 => ?_)
              have hn12 := own_ne hown (.inr kb34)
              have hm12 : g ≠ bk34 := by have := hvl.lt; omega
              replace hown := own_later hown lw34
              replace hsz := Nat.le_trans hsz lw34.size
              replace hvl := hvl.later lw34
              refine s_store rfl rfl rfl rfl rfl rfl rfl (fun w35 sw35 vw35 => ?_)
              replace hown := own_sto hown sw35 hn12
              replace hsz := Nat.le_trans hsz (Nat.le_of_eq sw35.size.symm)
              replace hvl := hvl.sto sw35 hm12
              refine vOrd_nil ?_
              refine Wp.seq ?_
              refine Wp.seq ?_
              refine Wp.region [0, 1, 2, 3, 4] (by kernel_rfl) (by kernel_rfl) ?_
              refine s_field 2 rfl rfl rfl rfl rfl ?_
              refine s_load rfl rfl rfl rfl rfl rfl rfl ?_
              refine s_load rfl rfl rfl rfl rfl rfl rfl ?_
              refine s_callT rfl rfl rfl (by kernel_rfl) rfl (rentry_any (by unfold I64; omega) (by unfold I64; omega) (ents_own hown hso.es) (ents_calm hso.es)) ?_
              rintro v w36 rfl lw36
              replace hown := own_later hown lw36
              replace hsz := Nat.le_trans hsz lw36.size
              replace hvl := hvl.later lw36
              rcases Bool.eq_false_or_eq_true ((stand s.t.es (a, b))) with h89 | h89
              · rw [h89]
                have hst := step_5 (n := i + 1) hq1 (by omega) h89
                refine s_not rfl rfl rfl rfl ?_
                refine vOrd_nil ?_
                refine Wp.condF rfl rfl ?_
                refine Wp.skip ?_
                have hlen64 := ok_len hso.es
                refine Wp.region [0, 1, 2, 3, 4, 5, 6] (by kernel_rfl) (by kernel_rfl) ?_
                refine s_field 2 rfl rfl rfl rfl rfl ?_
                refine s_load rfl rfl rfl rfl rfl rfl rfl ?_
                refine s_load rfl rfl rfl rfl rfl rfl rfl ?_
                refine s_bs (e := 43) (cs := [.int .i64 a, .int .i64 b]) rfl rfl rfl (fun _ => by kernel_rfl) ?_
                intro cbq wbq hcbq lbq hrowq
                replace hown := own_later hown lbq
                replace hsz := Nat.le_trans hsz lbq.size
                replace hvl := hvl.later lbq
                refine x_append (base := B0) (sz := 2) (bs := 16) (n := s.t.es.length) (m := 1) (xs := entC s.t.es) rfl rfl rfl rfl rfl rfl rfl rfl rfl rfl rfl (by decide) hown hrowq rfl rfl (by omega) (by omega) hsz (by omega) (by repeat (first | exact all_of4 (own_ne hown (.inl (by omega))) (own_ne hown (.inl (by omega))) (own_ne hown (.inl (by omega))) (own_ne hown (.inl (by omega))) | refine AllMem.put ?_ | refine AllMem.new ?_ hn10 | refine AllMem.new ?_ hn12 | refine AllMem.set ?_ hn10 | refine AllMem.set ?_ hn12 | refine AllMem.set ?_ (own_ne hown (.inl (by omega))))) ?_
                intro v2 w2a hown2 hgr2
                replace hvl := hvl.grown hgr2 (fun q => own_ne hown (.inl hg2) q.symm)
                replace hsz := Nat.le_trans hsz hgr2.size
                have hnv10 := hn10
                rw [← entC_app s.t.es (a, b)] at hown2
                obtain ⟨ea2, ec2, rfl⟩ := own_slice hown2
                rw [show s.t.es.length + 1 = (s.t.es ++ [(a, b)]).length by simp] at hown2 ⊢
                replace hown := hown2
                refine s_field 2 rfl rfl rfl rfl rfl ?_
                refine s_store rfl rfl rfl rfl rfl rfl rfl (fun w51 sw51 vw51 => ?_)
                replace hown := own_sto hown sw51 (own_ne hown (.inl (by omega)))
                replace hsz := Nat.le_trans hsz (Nat.le_of_eq sw51.size.symm)
                replace hvl := hvl.sto sw51 (by omega)
                refine vOrd_nil ?_
                refine Wp.region [0, 1, 2] (by kernel_rfl) (by kernel_rfl) ?_
                refine s_move rfl rfl rfl rfl ?_
                refine a_add (-9223372036854775808) 9223372036854775807 (by decide) rfl rfl rfl rfl rfl (by omega) (by omega) ?_
                refine s_assign rfl rfl rfl rfl ?_
                refine vOrd_nil ?_
                exact ⟨_, _, by omega, (St.of_le' (env := [(2, .p 2 _ 0), (5, .p 5 _ 0), (6, .p 6 _ 0), (7, .p 7 _ 0), (8, .v _), (9, .v _)]) (mem := [(2, _, [_, _, _]), (5, _, [_, _, _]), (6, _, _), (7, _, _)]) ⟨rfl, rfl, rfl, rfl, rfl, rfl, trivial⟩ ⟨rfl, rfl, rfl, rfl, trivial⟩), i + 1, _, { s with a5 := i + 1, t := { s.t with es := s.t.es ++ [(a, b)] } }, setF F k ((i + 1 : Nat) : Int), _, _, rfl, by omega, by omega, (run_ok hl hst).symm.trans hrun, hso.step (by omega) hst, seen_step hF hq1 hst, hown, hsz, fun _ => ⟨g, cs, rfl, hvl, hcs, hg1, hg2⟩, rfl⟩
              · rw [h89]
                refine s_not rfl rfl rfl rfl ?_
                refine vOrd_nil ?_
                refine Wp.condT rfl rfl ?_
                refine Wp.seq ?_
                refine Wp.region [0, 1, 2, 3, 4, 5] (by kernel_rfl) (by kernel_rfl) ?_
                refine s_build rfl rfl rfl rfl rfl (by kernel_rfl) ?_
                refine s_move rfl rfl rfl rfl ?_
                refine a_add (-9223372036854775808) 9223372036854775807 (by decide) rfl rfl rfl rfl rfl (by omega) (by omega) ?_
                refine s_store rfl rfl rfl rfl rfl rfl rfl (fun w52 sw52 vw52 => ?_)
                replace hown := own_sto hown sw52 (own_ne hown (.inl (by omega)))
                replace hsz := Nat.le_trans hsz (Nat.le_of_eq sw52.size.symm)
                replace hvl := hvl.sto sw52 (by omega)
                refine s_assign rfl rfl rfl rfl ?_
                refine s_assign rfl rfl rfl rfl ?_
                refine vOrd_nil ?_
                refine Wp.ret ⟨.inr rfl, fun lW => ⟨_, ⟨_, _, _, res_cell rfl rfl rfl rfl, res_tmp (P := Tryd.prog) rfl rfl, res_tmp (P := Tryd.prog) rfl rfl, rfl⟩, _, rfl, ?_, lW⟩⟩
                clear lW
                rw [parse_no hx hrun hl (step_5n hq1 (by omega) h89)]
                exact ⟨_, rfl, EntAt.nil _⟩
          · refine s_move rfl rfl rfl rfl ?_
            refine s_skip rfl rfl rfl ?_
            refine s_skip rfl rfl rfl ?_
            refine s_skip rfl rfl rfl ?_
            refine s_pick rfl rfl rfl rfl rfl ?_
            refine s_move rfl rfl rfl rfl ?_
            refine s_skip rfl rfl rfl ?_
            refine s_skip rfl rfl rfl ?_
            refine s_skip rfl rfl rfl ?_
            refine s_skip rfl rfl rfl ?_
            refine s_skip rfl rfl rfl ?_
            refine s_pick rfl rfl rfl rfl rfl ?_
            refine s_pick rfl rfl rfl rfl rfl ?_
            refine vOrd_nil ?_
            refine Wp.condF rfl rfl ?_
            refine Wp.skip ?_
            refine Wp.seq ?_
            refine Wp.region [0, 1, 2, 3, 4, 5] (by kernel_rfl) (by kernel_rfl) ?_
            refine s_field 0 rfl rfl rfl rfl rfl ?_
            refine s_load rfl rfl rfl rfl rfl rfl rfl ?_
            refine s_move rfl rfl rfl rfl ?_
            refine a_add (-9223372036854775808) 9223372036854775807 (by decide) rfl rfl rfl rfl rfl (by omega) (by omega) ?_
            rw [show (i : Int) + 1 = ((i + 1 : Nat) : Int) by omega]
            refine s_idxO (sz := 1) (0 + (k.toNat) * 1) rfl rfl rfl rfl rfl rfl rfl (by omega) (by omega) (by omega) ?_
            refine s_storeS rfl rfl rfl rfl rfl rfl (write_seen rfl F (by omega) (by omega) _) (fun ws13 ss13 vs13 => ?_)
            replace hown := own_sto hown ss13 (own_ne hown (.inl (by omega)))
            replace hsz := Nat.le_trans hsz (Nat.le_of_eq ss13.size.symm)
            replace hvl := hvl.sto ss13 (by omega)
            refine vOrd_nil ?_
            refine Wp.seq ?_
            refine Wp.region [0, 1] (by kernel_rfl) (by kernel_rfl) ?_
            refine s_field 0 rfl rfl rfl rfl rfl ?_
            refine s_load rfl rfl rfl rfl rfl rfl rfl ?_
            refine vOrd_nil ?_
            refine Wp.block ?_
            refine Wp.seq ?_
            refine Wp.region [0, 1] (by kernel_rfl) (by kernel_rfl) ?_
            refine f_eql rfl rfl rfl rfl rfl (by omega) ?_
            refine s_assign rfl rfl rfl rfl ?_
            refine vOrd_nil ?_
            refine Wp.condF rfl rfl ?_
            refine Wp.seq ?_
            refine Wp.region [0, 1] (by kernel_rfl) (by kernel_rfl) ?_
            refine f_eql rfl rfl rfl rfl rfl (by omega) ?_
            refine s_assign rfl rfl rfl rfl ?_
            refine vOrd_nil ?_
            refine Wp.condF rfl rfl ?_
            refine Wp.seq ?_
            refine Wp.region [0, 1] (by kernel_rfl) (by kernel_rfl) ?_
            refine f_eql rfl rfl rfl rfl rfl (by omega) ?_
            refine s_assign rfl rfl rfl rfl ?_
            refine vOrd_nil ?_
            refine Wp.condF rfl rfl ?_
            refine Wp.seq ?_
            have hst := step_1 (s := s) (n := i + 1) hq1 (by omega)
            refine Wp.region [0, 1] (by kernel_rfl) (by kernel_rfl) ?_
            refine f_eql rfl rfl rfl rfl rfl (by omega) ?_
            refine s_assign rfl rfl rfl rfl ?_
            refine vOrd_nil ?_
            refine Wp.condF rfl rfl ?_
            refine Wp.skip ?_
            refine Wp.region [0, 1, 2] (by kernel_rfl) (by kernel_rfl) ?_
            refine s_move rfl rfl rfl rfl ?_
            refine a_add (-9223372036854775808) 9223372036854775807 (by decide) rfl rfl rfl rfl rfl (by omega) (by omega) ?_
            refine s_assign rfl rfl rfl rfl ?_
            refine vOrd_nil ?_
            exact ⟨_, _, by omega, (St.of_le' (env := [(2, .p 2 _ 0), (5, .p 5 _ 0), (6, .p 6 _ 0), (7, .p 7 _ 0), (8, .v _), (9, .v _)]) (mem := [(2, _, [_, _, _]), (5, _, [_, _, _]), (6, _, _), (7, _, _)]) ⟨rfl, rfl, rfl, rfl, rfl, rfl, trivial⟩ ⟨rfl, rfl, rfl, rfl, trivial⟩), i + 1, _, s, setF F k ((i + 1 : Nat) : Int), _, _, rfl, by omega, by omega, (run_ok hl hst).symm.trans hrun, hso.step (by omega) hst, seen_step hF hq1 hst, hown, hsz, fun _ => ⟨g, cs, rfl, hvl, hcs, hg1, hg2⟩, rfl⟩
        · rw [h33]
          refine s_move rfl rfl rfl rfl ?_
          refine s_extract rfl rfl rfl rfl rfl ?_
          refine s_extract rfl rfl rfl rfl rfl ?_
          refine s_alloc rfl rfl rfl rfl rfl (fun bk59 w59 kb59 lw59 => ?_)
          have hn10 := own_ne hown (.inr kb59)
          have hm10 : g ≠ bk59 := by have := hvl.lt; omega
          replace hown := own_later hown lw59
          replace hsz := Nat.le_trans hsz lw59.size
          replace hvl := hvl.later lw59
          refine s_store rfl rfl rfl rfl rfl rfl rfl (fun w60 sw60 vw60 => ?_)
          replace hown := own_sto hown sw60 hn10
          replace hsz := Nat.le_trans hsz (Nat.le_of_eq sw60.size.symm)
          replace hvl := hvl.sto sw60 hm10
          refine s_assign rfl rfl rfl rfl ?_
          refine vOrd_nil ?_
          refine Wp.seq ?_
          refine Wp.seq ?_
          refine Wp.region [0, 1, 2, 3, 4, 5, 6, 7, 8, 9, 10, 11, 12, 13, 14, 15, 16, 17, 18] (by kernel_rfl) (by kernel_rfl) ?_
          refine s_move rfl rfl rfl rfl ?_
          refine s_not rfl rfl rfl rfl ?_
          refine s_move rfl rfl rfl rfl ?_
          refine s_skip rfl rfl rfl ?_
          refine s_skip rfl rfl rfl ?_
          refine s_skip rfl rfl rfl ?_
          refine s_skip rfl rfl rfl ?_
          refine s_skip rfl rfl rfl ?_
          refine s_skip rfl rfl rfl ?_
          refine s_skip rfl rfl rfl ?_
          refine s_skip rfl rfl rfl ?_
          refine s_skip rfl rfl rfl ?_
          refine s_skip rfl rfl rfl ?_
          refine s_skip rfl rfl rfl ?_
          refine s_skip rfl rfl rfl ?_
          refine s_skip rfl rfl rfl ?_
          refine s_skip rfl rfl rfl ?_
          refine s_skip rfl rfl rfl ?_
          refine s_pick rfl rfl rfl rfl rfl ?_
          refine vOrd_nil ?_
          refine Wp.condT rfl rfl ?_
          refine Wp.seq ?_
          refine Wp.region [0, 1, 2, 3, 4, 5] (by kernel_rfl) (by kernel_rfl) ?_
          refine s_build rfl rfl rfl rfl rfl (by kernel_rfl) ?_
          refine s_move rfl rfl rfl rfl ?_
          refine a_add (-9223372036854775808) 9223372036854775807 (by decide) rfl rfl rfl rfl rfl (by omega) (by omega) ?_
          refine s_store rfl rfl rfl rfl rfl rfl rfl (fun w61 sw61 vw61 => ?_)
          replace hown := own_sto hown sw61 (own_ne hown (.inl (by omega)))
          replace hsz := Nat.le_trans hsz (Nat.le_of_eq sw61.size.symm)
          replace hvl := hvl.sto sw61 (by omega)
          refine s_assign rfl rfl rfl rfl ?_
          refine s_assign rfl rfl rfl rfl ?_
          refine vOrd_nil ?_
          refine Wp.ret ⟨.inr rfl, fun lW => ⟨_, ⟨_, _, _, res_cell rfl rfl rfl rfl, res_tmp (P := Tryd.prog) rfl rfl, res_tmp (P := Tryd.prog) rfl rfl, rfl⟩, _, rfl, ?_, lW⟩⟩
          clear lW
          rw [parse_no hx hrun hl (step_none h33)]
          exact ⟨_, rfl, EntAt.nil _⟩
      · have hie : i = (linesL x).length := by omega
        refine vOrd_nil ?_
        refine Wp.condF rfl rfl ?_
        refine Wp.exit ?_
        refine Wp.seq ?_
        refine Wp.seq ?_
        refine Wp.region [0, 1, 2, 3, 4, 5, 6, 7, 8, 9, 10, 11, 12, 13, 14, 15, 16, 17] (by kernel_rfl) (by kernel_rfl) ?_
        refine s_idxO (sz := 1) 2 rfl rfl rfl rfl rfl rfl rfl (by decide) (by decide) rfl ?_
        refine s_load rfl rfl rfl rfl rfl rfl rfl ?_
        refine p_eql rfl rfl rfl rfl rfl (fun h102 => ?_) (fun h102 => ?_)
        · refine s_move rfl rfl rfl rfl ?_
          refine s_skip rfl rfl rfl ?_
          refine s_skip rfl rfl rfl ?_
          refine s_skip rfl rfl rfl ?_
          refine s_pick rfl rfl rfl rfl rfl ?_
          refine s_move rfl rfl rfl rfl ?_
          refine s_skip rfl rfl rfl ?_
          refine s_skip rfl rfl rfl ?_
          refine s_skip rfl rfl rfl ?_
          refine s_pick rfl rfl rfl rfl rfl ?_
          refine s_move rfl rfl rfl rfl ?_
          refine s_skip rfl rfl rfl ?_
          refine s_skip rfl rfl rfl ?_
          refine s_skip rfl rfl rfl ?_
          refine s_pick rfl rfl rfl rfl rfl ?_
          refine vOrd_nil ?_
          refine Wp.condT rfl rfl ?_
          refine Wp.seq ?_
          refine Wp.region [0, 1, 2, 3, 4, 5, 6] (by kernel_rfl) (by kernel_rfl) ?_
          refine s_build rfl rfl rfl rfl rfl (by kernel_rfl) ?_
          refine s_move rfl rfl rfl rfl ?_
          refine x_len rfl rfl rfl rfl rfl ?_
          refine a_add (-9223372036854775808) 9223372036854775807 (by decide) rfl rfl rfl rfl rfl (by omega) (by omega) ?_
          refine s_store rfl rfl rfl rfl rfl rfl rfl (fun w62 sw62 vw62 => ?_)
          replace hown := own_sto hown sw62 (own_ne hown (.inl (by omega)))
          replace hsz := Nat.le_trans hsz (Nat.le_of_eq sw62.size.symm)
          refine s_assign rfl rfl rfl rfl ?_
          refine s_assign rfl rfl rfl rfl ?_
          refine vOrd_nil ?_
          refine Wp.ret ⟨.inr rfl, fun lW => ⟨_, ⟨_, _, _, res_cell rfl rfl rfl rfl, res_tmp (P := Tryd.prog) rfl rfl, res_tmp (P := Tryd.prog) rfl rfl, rfl⟩, _, rfl, ?_, lW⟩⟩
          clear lW
          rw [parse_end hx hrun (by omega), end_lacks (by have := hF.s2; have := hF.s3; have := hF.s4; have := hF.s5; omega)]
          exact ⟨_, rfl, EntAt.nil _⟩
        · refine s_move rfl rfl rfl rfl ?_
          refine s_idxO (sz := 1) 3 rfl rfl rfl rfl rfl rfl rfl (by decide) (by decide) rfl ?_
          refine s_load rfl rfl rfl rfl rfl rfl rfl ?_
          refine p_eql rfl rfl rfl rfl rfl (fun h106 => ?_) (fun h106 => ?_)
          · refine s_pick rfl rfl rfl rfl rfl ?_
            refine s_move rfl rfl rfl rfl ?_
            refine s_skip rfl rfl rfl ?_
            refine s_skip rfl rfl rfl ?_
            refine s_skip rfl rfl rfl ?_
            refine s_pick rfl rfl rfl rfl rfl ?_
            refine s_move rfl rfl rfl rfl ?_
            refine s_skip rfl rfl rfl ?_
            refine s_skip rfl rfl rfl ?_
            refine s_skip rfl rfl rfl ?_
            refine s_pick rfl rfl rfl rfl rfl ?_
            refine vOrd_nil ?_
            refine Wp.condT rfl rfl ?_
            refine Wp.seq ?_
            refine Wp.region [0, 1, 2, 3, 4, 5, 6] (by kernel_rfl) (by kernel_rfl) ?_
            refine s_build rfl rfl rfl rfl rfl (by kernel_rfl) ?_
            refine s_move rfl rfl rfl rfl ?_
            refine x_len rfl rfl rfl rfl rfl ?_
            refine a_add (-9223372036854775808) 9223372036854775807 (by decide) rfl rfl rfl rfl rfl (by omega) (by omega) ?_
            refine s_store rfl rfl rfl rfl rfl rfl rfl (fun w63 sw63 vw63 => ?_)
            replace hown := own_sto hown sw63 (own_ne hown (.inl (by omega)))
            replace hsz := Nat.le_trans hsz (Nat.le_of_eq sw63.size.symm)
            refine s_assign rfl rfl rfl rfl ?_
            refine s_assign rfl rfl rfl rfl ?_
            refine vOrd_nil ?_
            refine Wp.ret ⟨.inr rfl, fun lW => ⟨_, ⟨_, _, _, res_cell rfl rfl rfl rfl, res_tmp (P := Tryd.prog) rfl rfl, res_tmp (P := Tryd.prog) rfl rfl, rfl⟩, _, rfl, ?_, lW⟩⟩
            clear lW
            rw [parse_end hx hrun (by omega), end_lacks (by have := hF.s2; have := hF.s3; have := hF.s4; have := hF.s5; omega)]
            exact ⟨_, rfl, EntAt.nil _⟩
          · refine s_pick rfl rfl rfl rfl rfl ?_
            refine s_move rfl rfl rfl rfl ?_
            refine s_idxO (sz := 1) 4 rfl rfl rfl rfl rfl rfl rfl (by decide) (by decide) rfl ?_
            refine s_load rfl rfl rfl rfl rfl rfl rfl ?_
            refine p_eql rfl rfl rfl rfl rfl (fun h111 => ?_) (fun h111 => ?_)
            · refine s_pick rfl rfl rfl rfl rfl ?_
              refine s_move rfl rfl rfl rfl ?_
              refine s_skip rfl rfl rfl ?_
              refine s_skip rfl rfl rfl ?_
              refine s_skip rfl rfl rfl ?_
              refine s_pick rfl rfl rfl rfl rfl ?_
              refine vOrd_nil ?_
              refine Wp.condT rfl rfl ?_
              refine Wp.seq ?_
              refine Wp.region [0, 1, 2, 3, 4, 5, 6] (by kernel_rfl) (by kernel_rfl) ?_
              refine s_build rfl rfl rfl rfl rfl (by kernel_rfl) ?_
              refine s_move rfl rfl rfl rfl ?_
              refine x_len rfl rfl rfl rfl rfl ?_
              refine a_add (-9223372036854775808) 9223372036854775807 (by decide) rfl rfl rfl rfl rfl (by omega) (by omega) ?_
              refine s_store rfl rfl rfl rfl rfl rfl rfl (fun w64 sw64 vw64 => ?_)
              replace hown := own_sto hown sw64 (own_ne hown (.inl (by omega)))
              replace hsz := Nat.le_trans hsz (Nat.le_of_eq sw64.size.symm)
              refine s_assign rfl rfl rfl rfl ?_
              refine s_assign rfl rfl rfl rfl ?_
              refine vOrd_nil ?_
              refine Wp.ret ⟨.inr rfl, fun lW => ⟨_, ⟨_, _, _, res_cell rfl rfl rfl rfl, res_tmp (P := Tryd.prog) rfl rfl, res_tmp (P := Tryd.prog) rfl rfl, rfl⟩, _, rfl, ?_, lW⟩⟩
              clear lW
              rw [parse_end hx hrun (by omega), end_lacks (by have := hF.s2; have := hF.s3; have := hF.s4; have := hF.s5; omega)]
              exact ⟨_, rfl, EntAt.nil _⟩
            · refine s_pick rfl rfl rfl rfl rfl ?_
              refine s_move rfl rfl rfl rfl ?_
              refine s_idxO (sz := 1) 5 rfl rfl rfl rfl rfl rfl rfl (by decide) (by decide) rfl ?_
              refine s_load rfl rfl rfl rfl rfl rfl rfl ?_
              refine p_eql rfl rfl rfl rfl rfl (fun h116 => ?_) (fun h116 => ?_)
              · refine s_pick rfl rfl rfl rfl rfl ?_
                refine vOrd_nil ?_
                refine Wp.condT rfl rfl ?_
                refine Wp.seq ?_
                refine Wp.region [0, 1, 2, 3, 4, 5, 6] (by kernel_rfl) (by kernel_rfl) ?_
                refine s_build rfl rfl rfl rfl rfl (by kernel_rfl) ?_
                refine s_move rfl rfl rfl rfl ?_
                refine x_len rfl rfl rfl rfl rfl ?_
                refine a_add (-9223372036854775808) 9223372036854775807 (by decide) rfl rfl rfl rfl rfl (by omega) (by omega) ?_
                refine s_store rfl rfl rfl rfl rfl rfl rfl (fun w65 sw65 vw65 => ?_)
                replace hown := own_sto hown sw65 (own_ne hown (.inl (by omega)))
                replace hsz := Nat.le_trans hsz (Nat.le_of_eq sw65.size.symm)
                refine s_assign rfl rfl rfl rfl ?_
                refine s_assign rfl rfl rfl rfl ?_
                refine vOrd_nil ?_
                refine Wp.ret ⟨.inr rfl, fun lW => ⟨_, ⟨_, _, _, res_cell rfl rfl rfl rfl, res_tmp (P := Tryd.prog) rfl rfl, res_tmp (P := Tryd.prog) rfl rfl, rfl⟩, _, rfl, ?_, lW⟩⟩
                clear lW
                rw [parse_end hx hrun (by omega), end_lacks (by have := hF.s2; have := hF.s3; have := hF.s4; have := hF.s5; omega)]
                exact ⟨_, rfl, EntAt.nil _⟩
              · refine s_pick rfl rfl rfl rfl rfl ?_
                refine vOrd_nil ?_
                refine Wp.condF rfl rfl ?_
                refine Wp.skip ?_
                refine Wp.seq ?_
                have hnz : ¬ (s.a2 = 0 ∨ s.a3 = 0 ∨ s.a4 = 0 ∨ s.a5 = 0) := by have := hF.s2; have := hF.s3; have := hF.s4; have := hF.s5; omega
                have hcan := hso.can (by omega)
                have hdl := digits_len hcan
                have hu := hso.u
                have he := hso.e
                refine Wp.region [0, 1, 2, 3, 4, 5] (by kernel_rfl) (by kernel_rfl) ?_
                refine s_load rfl rfl rfl rfl rfl rfl rfl ?_
                refine s_callT rfl rfl rfl (by kernel_rfl) rfl (rdig_any s.t hcan (by unfold I64; omega) (by unfold I64; omega) (ents_own hown hso.es)) ?_
                rintro v w66 rfl lw66
                replace hown := own_later hown lw66
                replace hsz := Nat.le_trans hsz lw66.size
                refine x_bytesS rfl rfl rfl rfl rfl rfl rfl ?_
                intro cb capb zb wb hcb lb hcap hrow
                have hB := hrow.bytes hcap
                replace hown := own_later hown lb
                replace hsz := Nat.le_trans hsz lb.size
                refine s_callT rfl rfl rfl (by kernel_rfl) rfl (rwords_any hB (by omega)) ?_
                rintro v w72 rfl lw72
                replace hown := own_later hown lw72
                replace hsz := Nat.le_trans hsz lw72.size
                rw [five_V, show fiveL (shaF (digitsL s.t)) = sumL s.t from rfl]
                refine s_allocS (List.replicate 5 (.int .i64 0)) rfl rfl rfl rfl (by kernel_rfl) (fun b13 w13 k13 l13 => ?_)
                have hn13 := own_ne hown (.inr k13)
                replace hown := own_later hown l13
                replace hsz := Nat.le_trans hsz l13.size
                refine s_storeS rfl rfl rfl rfl rfl rfl (write_all (n := 5) rfl rfl (by rw [List.length_map, sumL_len]) (ints_one _)) (fun ws28 ss28 vs28 => ?_)
                replace hown := own_sto hown ss28 hn13
                refine vOrd_nil ?_
                refine Wp.seq ?_
                refine Wp.seq ?_
                refine Wp.region [0] (by kernel_rfl) (by kernel_rfl) ?_
                refine s_assign rfl rfl rfl rfl ?_
                refine vOrd_nil ?_
                refine Wp.block ?_
                refine Wp.loop (fun k st W => ∃ (j : Nat) (p : Int), st = St.of [(2, .p 2 b2 0), (5, .p 5 b5 0), (6, .p 6 b6 0), (7, .p 7 b7 0), (13, .p 13 b13 0), (14, .v (.int .i64 p))] [(2, b2, [.int .i64 0, .int .i64 0, .slice none 0 0]), (5, b5, [.int .i64 s.t.u, .int .i64 s.t.e, .slice ea s.t.es.length ec]), (6, b6, s.ws.map (Value.int .u32)), (7, b7, seenC F), (13, b13, (sumL s.t).map (Value.int .i64))] ∧ p = j ∧ j ≤ 5 ∧ (∀ m, m < j → s.ws[m]? = (sumL s.t)[m]?) ∧ W.ownsRow B0 43 2 (.slice ea s.t.es.length ec) s.t.es.length (entC s.t.es) ∧ k = 5 - j) ?_ ?_
                · exact ⟨_, _, (St.of_le' (env := [(2, .p 2 _ 0), (5, .p 5 _ 0), (6, .p 6 _ 0), (7, .p 7 _ 0), (13, .p 13 _ 0), (14, .v _)]) (mem := [(2, _, [_, _, _]), (5, _, [_, _, _]), (6, _, _), (7, _, _), (13, _, _)]) ⟨rfl, rfl, rfl, rfl, rfl, rfl, trivial⟩ ⟨rfl, rfl, rfl, rfl, rfl, trivial⟩), 0, _, rfl, rfl, Nat.zero_le _, fun m hm => by omega, hown, rfl⟩
                · rintro k st w79 ⟨j, p, rfl, rfl, hj, hall, hown, rfl⟩
                  refine Wp.seq ?_
                  refine Wp.seq ?_
                  refine Wp.region [0, 1] (by kernel_rfl) (by kernel_rfl) ?_
                  refine s_move rfl rfl rfl rfl ?_
                  refine p_lss rfl rfl rfl rfl rfl (fun h127 => ?_) (fun h127 => ?_)
                  · obtain ⟨m, hm⟩ : ∃ m, (sumL s.t)[j]? = some m := ⟨(sumL s.t)[j]'(by rw [sumL_len]; omega), List.getElem?_eq_getElem _⟩
                    have hmin := sumL_in s.t m (List.mem_of_getElem? hm)
                    obtain ⟨n, hn⟩ : ∃ n, s.ws[j]? = some n := ⟨s.ws[j]'(by rw [hso.len]; omega), List.getElem?_eq_getElem _⟩
                    refine vOrd_nil ?_
                    refine Wp.condT rfl rfl ?_
                    refine Wp.skip ?_
                    refine Wp.seq ?_
                    refine Wp.block ?_
                    refine Wp.seq ?_
                    refine (Wp.drawn (by kernel_rfl) (by kernel_rfl) [0, 1, 2, 3, 4, 5, 6, 7] [112, 113, 115, 119, 0, 0, 0, 0] (by kernel_rfl) (by kernel_rfl) (fun _ _ _ => True) (fun wd ld => ?_))
                    replace hown := own_later hown ld
                    refine s_move rfl rfl rfl rfl ?_
                    refine s_idxO (sz := 1) (0 + (j) * 1) rfl rfl rfl rfl rfl rfl rfl (by omega) (by omega) (by omega) ?_
                    refine s_loadS (v := .int .i64 m) rfl rfl rfl rfl rfl (by rw [read_one rfl, Nat.zero_add, Nat.mul_one, List.getElem?_map, hm]; rfl) ?_
                    refine a_conv (0) 4294967295 (by decide) rfl rfl rfl rfl rfl rfl (by omega) (by omega) ?_
                    refine s_move rfl rfl rfl rfl ?_
                    refine s_idxO (sz := 1) (0 + (j) * 1) rfl rfl rfl rfl rfl rfl rfl (by omega) (by omega) (by omega) ?_
                    refine s_loadS (v := .int .u32 n) rfl rfl rfl rfl rfl (by rw [read_one rfl, Nat.zero_add, Nat.mul_one, List.getElem?_map, hn]; rfl) ?_
                    refine p_neq rfl rfl rfl rfl rfl (fun h137 => ?_) (fun h137 => ?_)
                    · have hne : s.ws ≠ sumL s.t := fun e => by rw [e, hm] at hn; cases hn; omega
                      refine vOrd_nil ?_
                      refine Wp.condT rfl rfl ?_
                      refine Wp.seq ?_
                      refine (Wp.drawn2 (by kernel_rfl) (by kernel_rfl) [0, 1] [6, 9] [2, 3, 4, 5] [0, 0, 0] [3, 2, 4, 5] [0, 0, 0] (by kernel_rfl) (by kernel_rfl) (fun _ _ _ => True) (fun wd ld => ?_))
                      replace hown := own_later hown ld
                      refine s_build rfl rfl rfl rfl rfl (by kernel_rfl) ?_
                      refine s_idxO (sz := 1) 4 rfl rfl rfl rfl rfl rfl rfl (by decide) (by decide) rfl ?_
                      refine vOrd_nil ⟨?_, ?_⟩
                      · refine s_load rfl rfl rfl rfl rfl rfl rfl ?_
                        refine s_store rfl rfl rfl rfl rfl rfl rfl (fun w82 sw82 vw82 => ?_)
                        replace hown := own_sto hown sw82 (own_ne hown (.inl (by omega)))
                        refine s_assign rfl rfl rfl rfl ?_
                        refine s_assign rfl rfl rfl rfl ?_
                        refine vOrd_nil ?_
                        refine Wp.ret ⟨.inr rfl, fun lW => ⟨_, ⟨_, _, _, res_cell rfl rfl rfl rfl, res_tmp (P := Tryd.prog) rfl rfl, res_tmp (P := Tryd.prog) rfl rfl, rfl⟩, _, rfl, ?_, lW⟩⟩
                        clear lW
                        rw [parse_end hx hrun hie, end_hash hnz hne, hF.s4]
                        exact ⟨_, rfl, EntAt.nil _⟩
                      · refine s_store rfl rfl rfl rfl rfl rfl rfl (fun w83 sw83 vw83 => ?_)
                        replace hown := own_sto hown sw83 (own_ne hown (.inl (by omega)))
                        refine s_load rfl rfl rfl rfl rfl rfl rfl ?_
                        refine s_assign rfl rfl rfl rfl ?_
                        refine s_assign rfl rfl rfl rfl ?_
                        refine vOrd_nil ?_
                        refine Wp.ret ⟨.inr rfl, fun lW => ⟨_, ⟨_, _, _, res_cell rfl rfl rfl rfl, res_tmp (P := Tryd.prog) rfl rfl, res_tmp (P := Tryd.prog) rfl rfl, rfl⟩, _, rfl, ?_, lW⟩⟩
                        clear lW
                        rw [parse_end hx hrun hie, end_hash hnz hne, hF.s4]
                        exact ⟨_, rfl, EntAt.nil _⟩
                    · refine vOrd_nil ?_
                      refine Wp.condF rfl rfl ?_
                      refine Wp.skip ?_
                      refine Wp.region [0, 1, 2] (by kernel_rfl) (by kernel_rfl) ?_
                      refine s_move rfl rfl rfl rfl ?_
                      refine a_add (-9223372036854775808) 9223372036854775807 (by decide) rfl rfl rfl rfl rfl (by omega) (by omega) ?_
                      refine s_assign rfl rfl rfl rfl ?_
                      refine vOrd_nil ?_
                      exact ⟨_, _, by omega, (St.of_le' (env := [(2, .p 2 _ 0), (5, .p 5 _ 0), (6, .p 6 _ 0), (7, .p 7 _ 0), (13, .p 13 _ 0), (14, .v _)]) (mem := [(2, _, [_, _, _]), (5, _, [_, _, _]), (6, _, _), (7, _, _), (13, _, _)]) ⟨rfl, rfl, rfl, rfl, rfl, rfl, trivial⟩ ⟨rfl, rfl, rfl, rfl, rfl, trivial⟩), j + 1, _, rfl, by omega, by omega, fun q hq => by rcases Nat.lt_or_ge q j with z | z; exact hall q z; rw [show q = j by omega, hm, hn]; congr 1; omega, hown, rfl⟩
                  · refine vOrd_nil ?_
                    refine Wp.condF rfl rfl ?_
                    refine Wp.exit ?_
                    have heq : s.ws = sumL s.t := ws_eq hso.len (sumL_len _) (fun m hm => hall m (by omega))
                    refine Wp.seq ?_
                    refine Wp.region [0, 1, 2, 3] (by kernel_rfl) (by kernel_rfl) ?_
                    refine s_load rfl rfl rfl rfl rfl rfl rfl ?_
                    refine s_store rfl rfl rfl rfl rfl rfl rfl (fun w84 sw84 vw84 => ?_)
                    replace hown := own_sto hown sw84 (own_ne hown (.inl (by omega)))
                    refine s_assign rfl rfl rfl rfl ?_
                    refine s_assign rfl rfl rfl rfl ?_
                    refine vOrd_nil ?_
                    refine Wp.ret ⟨.inr rfl, fun lW => ⟨_, ⟨_, _, _, res_cell rfl rfl rfl rfl, res_tmp (P := Tryd.prog) rfl rfl, res_tmp (P := Tryd.prog) rfl rfl, rfl⟩, _, rfl, ?_, lW⟩⟩
                    clear lW
                    rw [parse_end hx hrun hie, end_ok hnz heq]
                    exact ⟨_, rfl, ents_own hown hso.es⟩
end Go.Proofs.YthjgilocbfhffaaDoor
