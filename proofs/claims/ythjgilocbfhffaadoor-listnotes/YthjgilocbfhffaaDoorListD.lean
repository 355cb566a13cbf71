/-
  Leap second files: the digits of a table, its sum, its file, as the program and the reference tell them. No conditions.
-/
import Derived.Test.YthjgilocbfhffaaDoorListR
namespace Go.Proofs.YthjgilocbfhffaaDoor
open Go.RowKit
set_option maxRecDepth 100000

theorem row_strs {w : World} {c : Nat} {L : List (List UInt8)} (h : RowIs w c 9 (strsV L)) : StrAt w (some ⟨c, 0, none⟩) L := fun j x hj =>
  ⟨c, 0, rfl, by rw [Nat.zero_add, cell_of_row w c j _ _ _ h]; simp [strsV, hj]⟩
theorem refdecD {n : Int} (h0 : 0 ≤ n) (h1 : n < 1000000000000000000) (w : World) : Calls Tryd.prog 30 #[.int .i64 n] w fun e w' => ∃ r, e = .returned r ∧ r = .string ⟨⟨decD n⟩⟩ ∧ Below w.heap.size w w' := by
  obtain ⟨N, rfl⟩ := Int.eq_ofNat_of_zero_le h0
  exact refdec_any 17 N w (by decide) (by omega)
theorem check_yes {t : Tb} (hb : canBe t = true) (hu : I64 t.u) (he : I64 t.e) {v : Value} {w : World} (hv : EntAt w v t.es) : Calls Tryd.prog 9 #[tbV t v] w fun e w' => ∃ r, e = .returned r ∧ r = .tuple #[.int .i64 0, .int .i64 0] ∧ Below w.heap.size w w' := by
  have h := check_any t hu he hv
  rw [can_place hb, hb] at h
  exact h
theorem check_no {t : Tb} (hb : canBe t = false) (hu : I64 t.u) (he : I64 t.e) {v : Value} {w : World} (hv : EntAt w v t.es) : Calls Tryd.prog 9 #[tbV t v] w fun e w' => ∃ r, e = .returned r ∧ r = .tuple #[.int .i64 (place t : Int), .int .i64 10] ∧ Below w.heap.size w w' := by
  have h := check_any t hu he hv
  rw [hb] at h
  exact h

theorem pdig_no (t : Tb) (hb : canBe t = false) (hu : I64 t.u) (he : I64 t.e) {v : Value} {w : World} (hv : EntAt w v t.es) : Calls Tryd.prog 13 #[tbV t v] w fun e w' => ∃ r, e = .returned r ∧ r = .string ⟨⟨[]⟩⟩ ∧ Below w.heap.size w w' := by
  obtain ⟨tu, te, es⟩ := t
  simp only at hu he hv
  unfold I64 at hu he
  unfold tbV
  obtain ⟨va, vc, rfl, hlc⟩ : ∃ va vc, v = .slice va es.length vc ∧ es.length ≤ vc := by
    obtain ⟨va, vc, h1, h2, _⟩ := hv
    exact ⟨va, vc, h1, h2⟩
  refine calls_Wp (args := [_]) (n := 40) Tryd.func13 rfl rfl (by simp) ?_
  refine Wp.seq ?_
  refine Wp.region [0, 1] (by kernel_rfl) (by kernel_rfl) ?_
  refine s_box rfl rfl rfl rfl rfl rfl (fun bk1 w1 kb1 lw1 => ?_)
  refine s_assign rfl rfl rfl rfl ?_
  refine vOrd_nil ?_
  refine Wp.seq ?_
  refine Wp.seq ?_
  refine Wp.old (fun lo1 => ?_)
  refine Wp.region [0, 1, 2, 3, 4, 5, 6] (by kernel_rfl) (by kernel_rfl) ?_
  refine s_load rfl rfl rfl rfl rfl rfl rfl ?_
  refine s_callT rfl rfl rfl (by kernel_rfl) rfl (check_no (t := ⟨tu, te, es⟩) hb hu he (hv.later lo1)) ?_
  rintro v w2 rfl lw2
  refine s_move rfl rfl rfl rfl ?_
  refine s_extract rfl rfl rfl rfl rfl ?_
  refine s_extract rfl rfl rfl rfl rfl ?_
  refine s_assign rfl rfl rfl rfl ?_
  refine s_assign rfl rfl rfl rfl ?_
  refine vOrd_nil ?_
  refine Wp.seq ?_
  refine Wp.region [0, 1] (by kernel_rfl) (by kernel_rfl) ?_
  refine s_move rfl rfl rfl rfl ?_
  refine t_neq rfl rfl rfl rfl rfl (by omega) ?_
  refine vOrd_nil ?_
  refine Wp.condT rfl rfl ?_
  refine Wp.seq ?_
  refine Wp.region [0] (by kernel_rfl) (by kernel_rfl) ?_
  refine s_assign rfl rfl rfl rfl ?_
  refine vOrd_nil ?_
  refine Wp.ret ⟨.inr rfl, fun lW => ⟨_, res_tmp (P := Tryd.prog) rfl rfl, _, rfl, ?_, lW⟩⟩
  clear lW
  rfl
theorem pdig_yes (t : Tb) (hb : canBe t = true) (hu : I64 t.u) (he : I64 t.e) {v : Value} {w : World} (hv : EntAt w v t.es) (hT : Tab w) : Calls Tryd.prog 13 #[tbV t v] w fun e w' => ∃ r, e = .returned r ∧ r = .string ⟨⟨digitsL t⟩⟩ ∧ Below w.heap.size w w' := by
  have hlen := can_len hb
  obtain ⟨⟨u0, u1⟩, ⟨e0, e1⟩, _⟩ := can_num hb
  obtain ⟨tu, te, es⟩ := t
  simp only at hu he hv hlen u0 u1 e0 e1
  unfold I64 at hu he
  unfold tbV
  obtain ⟨va, vc, rfl, hlc⟩ : ∃ va vc, v = .slice va es.length vc ∧ es.length ≤ vc := by
    obtain ⟨va, vc, h1, h2, _⟩ := hv
    exact ⟨va, vc, h1, h2⟩
  refine calls_Wp (args := [_]) (n := 40) Tryd.func13 rfl rfl (by simp) ?_
  refine Wp.seq ?_
  refine Wp.region [0, 1] (by kernel_rfl) (by kernel_rfl) ?_
  refine s_box rfl rfl rfl rfl rfl rfl (fun bk1 w1 kb1 lw1 => ?_)
  refine s_assign rfl rfl rfl rfl ?_
  refine vOrd_nil ?_
  refine Wp.seq ?_
  refine Wp.seq ?_
  refine Wp.old (fun lo1 => ?_)
  refine Wp.old (fun lo => ?_)
  have tb := hT.later lo
  clear lo
  refine Wp.region [0, 1, 2, 3, 4, 5, 6] (by kernel_rfl) (by kernel_rfl) ?_
  refine s_load rfl rfl rfl rfl rfl rfl rfl ?_
  refine s_callT rfl rfl rfl (by kernel_rfl) rfl (check_yes (t := ⟨tu, te, es⟩) hb hu he (hv.later lo1)) ?_
  rintro v w2 rfl lw2
  replace tb := tb.later lw2
  refine s_move rfl rfl rfl rfl ?_
  refine s_extract rfl rfl rfl rfl rfl ?_
  refine s_extract rfl rfl rfl rfl rfl ?_
  refine s_assign rfl rfl rfl rfl ?_
  refine s_assign rfl rfl rfl rfl ?_
  refine vOrd_nil ?_
  refine Wp.seq ?_
  refine Wp.region [0, 1] (by kernel_rfl) (by kernel_rfl) ?_
  refine s_move rfl rfl rfl rfl ?_
  refine f_neq rfl rfl rfl rfl rfl (by omega) ?_
  refine vOrd_nil ?_
  refine Wp.condF rfl rfl ?_
  refine Wp.skip ?_
  refine Wp.seq ?_
  refine Wp.old (fun lo => ?_)
  have tb := hT.later lo
  clear lo
  refine (Wp.drawn (by kernel_rfl) (by kernel_rfl) [0, 1, 3, 4, 2, 5, 6, 7] [24, 25, 7, 15, 0, 0, 0, 0] (by kernel_rfl) (by kernel_rfl) (fun | 2 => fun v _ => v = .string ⟨⟨decD tu⟩⟩ | 5 => fun v _ => v = .string ⟨⟨decD te⟩⟩ | _ => fun _ _ => True) (fun wd ld => ?_))
  replace tb := tb.later ld
  clear ld
  refine s_field 0 rfl rfl rfl rfl rfl ?_
  refine s_load rfl rfl rfl rfl rfl rfl rfl ?_
  refine s_field 1 rfl rfl rfl rfl rfl ?_
  refine s_load rfl rfl rfl rfl rfl rfl rfl ?_
  refine s_callD rfl rfl rfl (by kernel_rfl) rfl (fun wc lc => itoa_any u0 u1 (tb.later lc)) ?_
  rintro v w3 u3 rfl lw3 mw3
  replace tb := (tb.later lw3).later mw3
  refine s_callD rfl rfl rfl (by kernel_rfl) rfl (fun wc lc => itoa_any e0 e1 (tb.later lc)) ?_
  rintro v w4 u4 rfl lw4 mw4
  replace tb := (tb.later lw4).later mw4
  refine b_cat rfl rfl rfl rfl rfl ((by have := decD_len (tu); have := decD_len (te); omega)) ?_
  refine s_assign rfl rfl rfl rfl ?_
  refine vOrd_nil ?_
  refine Wp.seq ?_
  refine Wp.seq ?_
  refine Wp.old (fun lo => ?_)
  have tb := hT.later lo
  clear lo
  refine Wp.region [0, 1, 2, 3] (by kernel_rfl) (by kernel_rfl) ?_
  refine s_field 2 rfl rfl rfl rfl rfl ?_
  refine s_load rfl rfl rfl rfl rfl rfl rfl ?_
  refine x_len rfl rfl rfl rfl rfl ?_
  refine s_move rfl rfl rfl rfl ?_
  refine vOrd_nil ?_
  refine Wp.block ?_
  refine Wp.loop (fun k st W => ∃ (i : Nat) (p : Int) (s : List UInt8), st = St.of [(1, .p 1 bk1 0), (5, .v (.string ⟨⟨s⟩⟩)), (23, .v (.slice va es.length vc)), (24, .v (.int .i64 (es.length : Int))), (25, .v (.int .i64 p))] [(1, bk1, [.int .i64 tu, .int .i64 te, .slice va es.length vc])] ∧ p = i ∧ i ≤ es.length ∧ s = (decD tu ++ decD te) ++ ((es.take i).map entD).flatten ∧ s.length ≤ 100 + 60 * i ∧ k = es.length - i) ?_ ?_
  · exact ⟨_, _, (St.of_le' (env := [(1, .p 1 _ 0), (5, .v _), (23, .v _), (24, .v _), (25, .v _)]) (mem := [(1, _, [_, _, _])]) ⟨rfl, rfl, rfl, rfl, rfl, trivial⟩ ⟨rfl, trivial⟩), 0, _, _, rfl, rfl, Nat.zero_le _, by simp, (by have := decD_len (tu); have := decD_len (te); simp only [List.length_append]; omega), rfl⟩
  · rintro k st w5 ⟨i, p, s, rfl, rfl, hi, hs, hsl, rfl⟩
    refine Wp.seq ?_
    refine Wp.region [0] (by kernel_rfl) (by kernel_rfl) ?_
    refine p_lss rfl rfl rfl rfl rfl (fun h26 => ?_) (fun h26 => ?_)
    · refine vOrd_nil ?_
      refine Wp.seq ?_
      refine Wp.condT rfl rfl ?_
      refine Wp.skip ?_
      refine Wp.seq ?_
      refine Wp.block ?_
      refine Wp.seq ?_
      have hin : i < es.length := by omega
      obtain ⟨x, hx⟩ : ∃ x, es[i]? = some x := ⟨es[i], List.getElem?_eq_getElem hin⟩
      refine Wp.old (fun lo => ?_)
      have hE := hv.later lo
      obtain ⟨va1, vc1, ev, _, hcell⟩ := hE
      obtain ⟨i1, i2, vb, vo, rfl, k1, k2⟩ := hcell _ x hx
      cases ev
      unfold I64 at i1 i2
      clear hcell
      obtain ⟨⟨a0, a1⟩, b0, b1⟩ := can_ent hb hx
      refine Wp.region [0, 1, 2, 3] (by kernel_rfl) (by kernel_rfl) ?_
      refine s_idx (sz := 2) (vo + i * 2) rfl rfl rfl rfl rfl rfl rfl (by omega) (by omega) (by omega) ?_
      refine x_ldA [.int .i64 x.1, .int .i64 x.2] rfl rfl rfl rfl rfl rfl (World.block_lt_of_cell? _ _ k1) (fun j u hj => ?_) ?_
      · match j, hj with
        | 0, hj => cases hj; exact k1
        | 1, hj => cases hj; exact k2
      refine s_alloc rfl rfl rfl rfl rfl (fun bk11 w11 kb11 lw11 => ?_)
      refine s_store rfl rfl rfl rfl rfl rfl rfl (fun w12 sw12 vw12 => ?_)
      refine vOrd_nil ?_
      refine Wp.old (fun lo => ?_)
      have tb := hT.later lo
      clear lo
      refine (Wp.drawn (by kernel_rfl) (by kernel_rfl) [0, 1, 2, 4, 5, 3, 6, 7, 8, 9] [254, 49, 51, 15, 31, 0, 0, 0, 0, 0] (by kernel_rfl) (by kernel_rfl) (fun | 3 => fun v _ => v = .string ⟨⟨decD x.1⟩⟩ | 6 => fun v _ => v = .string ⟨⟨decD x.2⟩⟩ | _ => fun _ _ => True) (fun wd ld => ?_))
      replace tb := tb.later ld
      clear ld
      refine s_move rfl rfl rfl rfl ?_
      refine s_field 0 rfl rfl rfl rfl rfl ?_
      refine s_load rfl rfl rfl rfl rfl rfl rfl ?_
      refine s_field 1 rfl rfl rfl rfl rfl ?_
      refine s_load rfl rfl rfl rfl rfl rfl rfl ?_
      refine s_callD rfl rfl rfl (by kernel_rfl) rfl (fun wc lc => itoa_any a0 (by omega) (tb.later lc)) ?_
      rintro v w13 u13 rfl lw13 mw13
      replace tb := (tb.later lw13).later mw13
      refine s_callD rfl rfl rfl (by kernel_rfl) rfl (fun wc lc => itoa_any b0 (by omega) (tb.later lc)) ?_
      rintro v w14 u14 rfl lw14 mw14
      replace tb := (tb.later lw14).later mw14
      refine b_cat rfl rfl rfl rfl rfl ((by have := decD_len (x.1); have := decD_len (x.2); omega)) ?_
      refine b_cat rfl rfl rfl rfl rfl ((by have := decD_len (x.1); have := decD_len (x.2); simp only [List.length_append]; omega)) ?_
      refine s_assign rfl rfl rfl rfl ?_
      refine vOrd_nil ?_
      refine Wp.region [0, 1] (by kernel_rfl) (by kernel_rfl) ?_
      refine a_add (-9223372036854775808) 9223372036854775807 (by decide) rfl rfl rfl rfl rfl (by omega) (by omega) ?_
      refine s_move rfl rfl rfl rfl ?_
      refine vOrd_nil ?_
      exact ⟨_, _, by omega, (St.of_le' (env := [(1, .p 1 _ 0), (5, .v _), (23, .v _), (24, .v _), (25, .v _)]) (mem := [(1, _, [_, _, _])]) ⟨rfl, rfl, rfl, rfl, rfl, trivial⟩ ⟨rfl, trivial⟩), i + 1, _, _, rfl, by omega, by omega, by rw [hs, flat_snoc entD hx]; simp [entD], (by have := decD_len (x.1); have := decD_len (x.2); simp only [List.length_append]; omega), rfl⟩
    · refine vOrd_nil ?_
      refine Wp.seq ?_
      refine Wp.condF rfl rfl ?_
      refine Wp.exit ?_
      refine Wp.seq ?_
      refine Wp.region [0, 1] (by kernel_rfl) (by kernel_rfl) ?_
      refine s_move rfl rfl rfl rfl ?_
      refine s_assign rfl rfl rfl rfl ?_
      refine vOrd_nil ?_
      refine Wp.ret ⟨.inr rfl, fun lW => ⟨_, res_tmp (P := Tryd.prog) rfl rfl, _, rfl, ?_, lW⟩⟩
      clear lW
      rw [hs, show i = es.length by omega, List.take_length]
      rfl
theorem rdig_any (t : Tb) (hb : canBe t = true) (hu : I64 t.u) (he : I64 t.e) {v : Value} {w : World} (hv : EntAt w v t.es) : Calls Tryd.prog 15 #[tbV t v] w fun e w' => ∃ r, e = .returned r ∧ r = .string ⟨⟨digitsL t⟩⟩ ∧ Below w.heap.size w w' := by
  have hlen := can_len hb
  obtain ⟨⟨u0, u1⟩, ⟨e0, e1⟩, _⟩ := can_num hb
  obtain ⟨tu, te, es⟩ := t
  simp only at hu he hv hlen u0 u1 e0 e1
  unfold I64 at hu he
  unfold tbV
  obtain ⟨va, vc, rfl, hlc⟩ : ∃ va vc, v = .slice va es.length vc ∧ es.length ≤ vc := by
    obtain ⟨va, vc, h1, h2, _⟩ := hv
    exact ⟨va, vc, h1, h2⟩
  refine calls_Wp (args := [_]) (n := 37) Tryd.func15 rfl rfl (by simp) ?_
  refine Wp.seq ?_
  refine Wp.region [0, 1] (by kernel_rfl) (by kernel_rfl) ?_
  refine s_box rfl rfl rfl rfl rfl rfl (fun bk1 w1 kb1 lw1 => ?_)
  refine s_assign rfl rfl rfl rfl ?_
  refine vOrd_nil ?_
  refine Wp.seq ?_
  refine (Wp.drawn (by kernel_rfl) (by kernel_rfl) [0, 1, 3, 4, 2, 5, 6, 7] [24, 25, 7, 15, 0, 0, 0, 0] (by kernel_rfl) (by kernel_rfl) (fun | 2 => fun v _ => v = .string ⟨⟨decD tu⟩⟩ | 5 => fun v _ => v = .string ⟨⟨decD te⟩⟩ | _ => fun _ _ => True) (fun _ _ => ?_))
  refine s_field 0 rfl rfl rfl rfl rfl ?_
  refine s_load rfl rfl rfl rfl rfl rfl rfl ?_
  refine s_field 1 rfl rfl rfl rfl rfl ?_
  refine s_load rfl rfl rfl rfl rfl rfl rfl ?_
  refine s_callD rfl rfl rfl (by kernel_rfl) rfl (fun wc lc => refdecD u0 u1 wc) ?_
  rintro v w2 u2 rfl lw2 mw2
  refine s_callD rfl rfl rfl (by kernel_rfl) rfl (fun wc lc => refdecD e0 e1 wc) ?_
  rintro v w3 u3 rfl lw3 mw3
  refine b_cat rfl rfl rfl rfl rfl ((by have := decD_len (tu); have := decD_len (te); omega)) ?_
  refine s_assign rfl rfl rfl rfl ?_
  refine vOrd_nil ?_
  refine Wp.seq ?_
  refine Wp.seq ?_
  refine Wp.region [0] (by kernel_rfl) (by kernel_rfl) ?_
  refine s_assign rfl rfl rfl rfl ?_
  refine vOrd_nil ?_
  refine Wp.block ?_
  refine Wp.loop (fun k st W => ∃ (i : Nat) (p : Int) (s : List UInt8), st = St.of [(1, .p 1 bk1 0), (3, .v (.string ⟨⟨s⟩⟩)), (4, .v (.int .i64 p))] [(1, bk1, [.int .i64 tu, .int .i64 te, .slice va es.length vc])] ∧ p = i ∧ i ≤ es.length ∧ s = (decD tu ++ decD te) ++ ((es.take i).map entD).flatten ∧ s.length ≤ 100 + 60 * i ∧ k = es.length - i) ?_ ?_
  · exact ⟨_, _, (St.of_le' (env := [(1, .p 1 _ 0), (3, .v _), (4, .v _)]) (mem := [(1, _, [_, _, _])]) ⟨rfl, rfl, rfl, trivial⟩ ⟨rfl, trivial⟩), 0, _, _, rfl, rfl, Nat.zero_le _, by simp, (by have := decD_len (tu); have := decD_len (te); simp only [List.length_append]; omega), rfl⟩
  · rintro k st w4 ⟨i, p, s, rfl, rfl, hi, hs, hsl, rfl⟩
    refine Wp.seq ?_
    refine Wp.seq ?_
    refine Wp.region [0, 1, 2, 3, 4] (by kernel_rfl) (by kernel_rfl) ?_
    refine s_move rfl rfl rfl rfl ?_
    refine s_field 2 rfl rfl rfl rfl rfl ?_
    refine s_load rfl rfl rfl rfl rfl rfl rfl ?_
    refine x_len rfl rfl rfl rfl rfl ?_
    refine p_lss rfl rfl rfl rfl rfl (fun h16 => ?_) (fun h16 => ?_)
    · refine vOrd_nil ?_
      refine Wp.condT rfl rfl ?_
      refine Wp.skip ?_
      refine Wp.seq ?_
      refine Wp.block ?_
      have hin : i < es.length := by omega
      obtain ⟨x, hx⟩ : ∃ x, es[i]? = some x := ⟨es[i], List.getElem?_eq_getElem hin⟩
      refine Wp.old (fun lo => ?_)
      have hE := hv.later lo
      obtain ⟨va1, vc1, ev, _, hcell⟩ := hE
      obtain ⟨i1, i2, vb, vo, rfl, k1, k2⟩ := hcell _ x hx
      cases ev
      unfold I64 at i1 i2
      clear hcell
      obtain ⟨⟨a0, a1⟩, b0, b1⟩ := can_ent hb hx
      refine (Wp.drawn (by kernel_rfl) (by kernel_rfl) [0, 1, 2, 3, 4, 5, 6, 9, 10, 11, 12, 13, 14, 7, 8, 15, 16, 17] [65278, 32265, 32267, 32263, 32271, 32287, 32319, 2559, 3071, 2047, 4095, 8191, 16383, 0, 65279, 0, 0, 0] (by kernel_rfl) (by kernel_rfl) (fun | 7 => fun v _ => v = .string ⟨⟨decD x.1⟩⟩ | 15 => fun v _ => v = .string ⟨⟨decD x.2⟩⟩ | _ => fun _ _ => True) (fun wd ld => ?_))
      have k1 := (World.cell?_of_block (ld.block _ (World.block_lt_of_cell? _ _ k1))).trans k1
      have k2 := (World.cell?_of_block (ld.block _ (World.block_lt_of_cell? _ _ k2))).trans k2
      refine s_move rfl rfl rfl rfl ?_
      refine s_field 2 rfl rfl rfl rfl rfl ?_
      refine s_load rfl rfl rfl rfl rfl rfl rfl ?_
      refine s_move rfl rfl rfl rfl ?_
      refine s_idx (sz := 2) (vo + i * 2) rfl rfl rfl rfl rfl rfl rfl (by omega) (by omega) (by omega) ?_
      refine s_fieldV (vo + i * 2) rfl rfl rfl rfl 0 rfl rfl ?_
      refine x_ldc rfl rfl rfl rfl rfl k1 ?_
      refine s_field 2 rfl rfl rfl rfl rfl ?_
      refine s_load rfl rfl rfl rfl rfl rfl rfl ?_
      refine s_move rfl rfl rfl rfl ?_
      refine s_idx (sz := 2) (vo + i * 2) rfl rfl rfl rfl rfl rfl rfl (by omega) (by omega) (by omega) ?_
      refine s_fieldV (vo + i * 2 + 1) rfl rfl rfl rfl 1 rfl rfl ?_
      refine x_ldc rfl rfl rfl rfl rfl k2 ?_
      refine s_callD rfl rfl rfl (by kernel_rfl) rfl (fun wc lc => refdecD a0 (by omega) wc) ?_
      rintro v w11 u11 rfl lw11 mw11
      refine b_cat rfl rfl rfl rfl rfl ((by have := decD_len (x.1); have := decD_len (x.2); omega)) ?_
      refine s_callD rfl rfl rfl (by kernel_rfl) rfl (fun wc lc => refdecD b0 (by omega) wc) ?_
      rintro v w12 u12 rfl lw12 mw12
      refine b_cat rfl rfl rfl rfl rfl ((by have := decD_len (x.1); have := decD_len (x.2); simp only [List.length_append]; omega)) ?_
      refine s_assign rfl rfl rfl rfl ?_
      refine vOrd_nil ?_
      refine Wp.region [0, 1, 2] (by kernel_rfl) (by kernel_rfl) ?_
      refine s_move rfl rfl rfl rfl ?_
      refine a_add (-9223372036854775808) 9223372036854775807 (by decide) rfl rfl rfl rfl rfl (by omega) (by omega) ?_
      refine s_assign rfl rfl rfl rfl ?_
      refine vOrd_nil ?_
      exact ⟨_, _, by omega, (St.of_le' (env := [(1, .p 1 _ 0), (3, .v _), (4, .v _)]) (mem := [(1, _, [_, _, _])]) ⟨rfl, rfl, rfl, trivial⟩ ⟨rfl, trivial⟩), i + 1, _, _, rfl, by omega, by omega, by rw [hs, flat_snoc entD hx]; simp [entD], (by have := decD_len (x.1); have := decD_len (x.2); simp only [List.length_append]; omega), rfl⟩
    · refine vOrd_nil ?_
      refine Wp.condF rfl rfl ?_
      refine Wp.exit ?_
      refine Wp.seq ?_
      refine Wp.region [0, 1] (by kernel_rfl) (by kernel_rfl) ?_
      refine s_move rfl rfl rfl rfl ?_
      refine s_assign rfl rfl rfl rfl ?_
      refine vOrd_nil ?_
      refine Wp.ret ⟨.inr rfl, fun lW => ⟨_, res_tmp (P := Tryd.prog) rfl rfl, _, rfl, ?_, lW⟩⟩
      clear lW
      rw [hs, show i = es.length by omega, List.take_length]
      rfl
def wsV (ws : List Int) : Value := .agg (ws.map (Value.int .u32)).toArray
theorem words_V (s : Five) : wordsV s = wsV (fiveL s) := by obtain ⟨a, b, c, d, e⟩ := s; rfl
theorem digits_len {t : Tb} (hb : canBe t = true) : (digitsL t).length ≤ 100000 := by
  have h1 := decD_len t.u
  have h2 := decD_len t.e
  have h3 := entD_len t.es
  have h4 := can_len hb
  unfold digitsL
  simp only [List.length_append]
  omega
theorem five_in {s : Five} (h : ok5 s) : ∀ n ∈ fiveL s, 0 ≤ n ∧ n < 4294967296 := by
  obtain ⟨a, b, c, d, e⟩ := s
  simp only [ok5, inW32] at h
  simp only [fiveL, List.mem_cons, List.not_mem_nil, or_false]
  rintro n (rfl | rfl | rfl | rfl | rfl)
  · exact h.1
  · exact h.2.1
  · exact h.2.2.1
  · exact h.2.2.2.1
  · exact h.2.2.2.2
theorem sumL_in (t : Tb) : ∀ n ∈ sumL t, 0 ≤ n ∧ n < 4294967296 := five_in (hAt_in _ _)
theorem sumL_len (t : Tb) : (sumL t).length = 5 := by
  unfold sumL
  obtain ⟨a, b, c, d, e⟩ := shaF (digitsL t)
  rfl

theorem psum_any (t : Tb) (hb : canBe t = true) (hu : I64 t.u) (he : I64 t.e) {v : Value} {w : World} (hv : EntAt w v t.es) (hT : Tab w) : Calls Tryd.prog 25 #[tbV t v] w fun e w' => ∃ r, e = .returned r ∧ r = wsV (sumL t) ∧ Below w.heap.size w w' := by
  have hdl := digits_len hb
  have hsum : wordsV (shaF (digitsL t)) = wsV (sumL t) := words_V _
  rw [← hsum]
  clear hsum
  have hlen := can_len hb
  obtain ⟨⟨u0, u1⟩, ⟨e0, e1⟩, _⟩ := can_num hb
  obtain ⟨tu, te, es⟩ := t
  simp only at hu he hv hlen u0 u1 e0 e1 hdl
  unfold I64 at hu he
  unfold tbV
  obtain ⟨va, vc, rfl, hlc⟩ : ∃ va vc, v = .slice va es.length vc ∧ es.length ≤ vc := by
    obtain ⟨va, vc, h1, h2, _⟩ := hv
    exact ⟨va, vc, h1, h2⟩
  obtain ⟨y, hy⟩ : ∃ y, shaF (digitsL ⟨tu, te, es⟩) = y := ⟨_, rfl⟩
  rw [hy]
  obtain ⟨y0, y1, y2, y3, y4⟩ := y
  refine calls_Wp (args := [_]) (n := 7) Tryd.func25 rfl rfl (by simp) ?_
  refine Wp.seq ?_
  refine Wp.region [0, 1] (by kernel_rfl) (by kernel_rfl) ?_
  refine s_box rfl rfl rfl rfl rfl rfl (fun bk1 w1 kb1 lw1 => ?_)
  refine s_alloc rfl rfl rfl rfl rfl (fun bk2 w2 kb2 lw2 => ?_)
  refine vOrd_nil ?_
  refine Wp.seq ?_
  refine Wp.old (fun lo1 => ?_)
  refine Wp.old (fun lo => ?_)
  have tb := hT.later lo
  clear lo
  refine Wp.region [0, 1, 2, 3, 4] (by kernel_rfl) (by kernel_rfl) ?_
  refine s_load rfl rfl rfl rfl rfl rfl rfl ?_
  refine s_callT rfl rfl rfl (by kernel_rfl) rfl (pdig_yes ⟨tu, te, es⟩ hb hu he (hv.later lo1) tb) ?_
  rintro v w3 rfl lw3
  replace tb := tb.later lw3
  refine x_bytesS rfl rfl rfl rfl rfl rfl rfl ?_
  intro cb capb zb wb hcb lb hcap hrow
  have hB := hrow.bytes hcap
  refine s_callT rfl rfl rfl (by kernel_rfl) rfl (swords_any hB (by omega)) ?_
  rintro v w7 rfl lw7
  rw [hy]
  unfold wordsV
  refine s_store rfl rfl rfl rfl rfl rfl rfl (fun w8 sw8 vw8 => ?_)
  refine vOrd_nil ?_
  refine Wp.ret ⟨.inr rfl, fun lW => ⟨_, res_cell rfl rfl rfl rfl, _, rfl, ?_, lW⟩⟩
  clear lW
  rfl
theorem pword_any {n : Nat} (hn : n < 4294967296) {w : World} (hT : Tab w) : Calls Tryd.prog 26 #[.int .u32 (n : Int)] w fun e w' => ∃ r, e = .returned r ∧ r = .string ⟨⟨hexW (n : Int)⟩⟩ ∧ Below w.heap.size w w' := by
  have hl := hexF_len 7 n
  obtain ⟨f, hf⟩ : ∃ f, hexF 7 n = f := ⟨_, rfl⟩
  have hp := hexF_pad 7 n (by simpa using hn)
  rw [hf] at hl hp
  refine calls_Wp (args := [_]) (n := 13) Tryd.func26 rfl rfl (by simp) ?_
  refine Wp.seq ?_
  refine Wp.region [0] (by kernel_rfl) (by kernel_rfl) ?_
  refine s_assign rfl rfl rfl rfl ?_
  refine vOrd_nil ?_
  refine Wp.seq ?_
  refine Wp.old (fun lo => ?_)
  have tb := hT.later lo
  clear lo
  refine Wp.region [0, 1, 2, 3] (by kernel_rfl) (by kernel_rfl) ?_
  refine s_move rfl rfl rfl rfl ?_
  refine a_conv (0) 18446744073709551615 (by decide) rfl rfl rfl rfl rfl rfl (by omega) (by omega) ?_
  refine s_callT rfl rfl rfl (by kernel_rfl) rfl (fmt16_any hn tb) ?_
  rintro v w1 rfl lw1
  replace tb := tb.later lw1
  rw [hf]
  refine s_assign rfl rfl rfl rfl ?_
  refine vOrd_nil ?_
  refine Wp.seq ?_
  refine Wp.old (fun lo => ?_)
  have tb := hT.later lo
  clear lo
  refine Wp.region [0, 1, 2, 3, 4, 5, 6] (by kernel_rfl) (by kernel_rfl) ?_
  refine s_move rfl rfl rfl rfl ?_
  refine b_len rfl rfl rfl rfl rfl ?_
  refine a_sub (-9223372036854775808) 9223372036854775807 (by decide) rfl rfl rfl rfl rfl (by omega) (by omega) ?_
  rw [show (8 : Int) - (f.length : Int) = ((8 - f.length : Nat) : Int) by omega]
  refine s_callT rfl rfl rfl (by kernel_rfl) rfl (repeat_any (8 - f.length) (by omega) _) ?_
  rintro v w4 rfl lw4
  replace tb := tb.later lw4
  refine s_move rfl rfl rfl rfl ?_
  refine b_cat rfl rfl rfl rfl rfl ((by rw [List.length_replicate]; omega)) ?_
  refine s_assign rfl rfl rfl rfl ?_
  refine vOrd_nil ?_
  refine Wp.ret ⟨.inr rfl, fun lW => ⟨_, res_tmp (P := Tryd.prog) rfl rfl, _, rfl, ?_, lW⟩⟩
  clear lW
  unfold hexW
  rw [Int.toNat_natCast, ← hp]
theorem line_any {a : Option Addr} {L : List (List UInt8)} {c : Nat} {w : World} (hS : StrAt w a L) (hL : L.length ≤ c) (h0 : L ≠ []) (hn : L.length ≤ 1000) (hl : (tabJ L).length ≤ 100000) : Calls Tryd.prog 23 #[.slice a L.length c] w fun e w' => ∃ r, e = .returned r ∧ r = .string ⟨⟨tabJ L ++ [10]⟩⟩ ∧ Below w.heap.size w w' := by
  refine calls_Wp (args := [_]) (n := 6) Tryd.func23 rfl rfl (by simp) ?_
  refine Wp.seq ?_
  refine Wp.region [0] (by kernel_rfl) (by kernel_rfl) ?_
  refine s_assign rfl rfl rfl rfl ?_
  refine vOrd_nil ?_
  refine Wp.seq ?_
  refine Wp.old (fun lo => ?_)
  refine Wp.region [0, 1, 2, 3] (by kernel_rfl) (by kernel_rfl) ?_
  refine s_move rfl rfl rfl rfl ?_
  refine s_callT rfl rfl rfl (by kernel_rfl) rfl (join_any (hS.later lo) hL h0 hn hl) ?_
  rintro v w1 rfl lw1
  refine b_cat rfl rfl rfl rfl rfl ((by simp only [List.length_cons, List.length_nil]; omega)) ?_
  refine s_assign rfl rfl rfl rfl ?_
  refine vOrd_nil ?_
  refine Wp.ret ⟨.inr rfl, fun lW => ⟨_, res_tmp (P := Tryd.prog) rfl rfl, _, rfl, ?_, lW⟩⟩
  clear lW
  rfl
theorem pprint_no (t : Tb) (hb : canBe t = false) (hu : I64 t.u) (he : I64 t.e) {v : Value} {w : World} (hv : EntAt w v t.es) : Calls Tryd.prog 12 #[tbV t v] w fun e w' => ∃ r, e = .returned r ∧ r = .string ⟨⟨[]⟩⟩ ∧ Below w.heap.size w w' := by
  obtain ⟨tu, te, es⟩ := t
  simp only at hu he hv
  unfold I64 at hu he
  unfold tbV
  obtain ⟨va, vc, rfl, hlc⟩ : ∃ va vc, v = .slice va es.length vc ∧ es.length ≤ vc := by
    obtain ⟨va, vc, h1, h2, _⟩ := hv
    exact ⟨va, vc, h1, h2⟩
  refine calls_Wp (args := [_]) (n := 63) Tryd.func12 rfl rfl (by simp) ?_
  refine Wp.seq ?_
  refine Wp.region [0, 1] (by kernel_rfl) (by kernel_rfl) ?_
  refine s_box rfl rfl rfl rfl rfl rfl (fun bk1 w1 kb1 lw1 => ?_)
  refine s_assign rfl rfl rfl rfl ?_
  refine vOrd_nil ?_
  refine Wp.seq ?_
  refine Wp.seq ?_
  refine Wp.old (fun lo1 => ?_)
  refine Wp.region [0, 1, 2, 3, 4, 5, 6] (by kernel_rfl) (by kernel_rfl) ?_
  refine s_load rfl rfl rfl rfl rfl rfl rfl ?_
  refine s_callT rfl rfl rfl (by kernel_rfl) rfl (check_no (t := ⟨tu, te, es⟩) hb hu he (hv.later lo1)) ?_
  rintro v w2 rfl lw2
  refine s_move rfl rfl rfl rfl ?_
  refine s_extract rfl rfl rfl rfl rfl ?_
  refine s_extract rfl rfl rfl rfl rfl ?_
  refine s_assign rfl rfl rfl rfl ?_
  refine s_assign rfl rfl rfl rfl ?_
  refine vOrd_nil ?_
  refine Wp.seq ?_
  refine Wp.region [0, 1] (by kernel_rfl) (by kernel_rfl) ?_
  refine s_move rfl rfl rfl rfl ?_
  refine t_neq rfl rfl rfl rfl rfl (by omega) ?_
  refine vOrd_nil ?_
  refine Wp.condT rfl rfl ?_
  refine Wp.seq ?_
  refine Wp.region [0] (by kernel_rfl) (by kernel_rfl) ?_
  refine s_assign rfl rfl rfl rfl ?_
  refine vOrd_nil ?_
  refine Wp.ret ⟨.inr rfl, fun lW => ⟨_, res_tmp (P := Tryd.prog) rfl rfl, _, rfl, ?_, lW⟩⟩
  clear lW
  rfl
theorem own_strs2 {w : World} {base : Nat} {e : TypeId} {a : Option Addr} {n c : Nat} {xs : List Value} (h : w.ownsRow base e 1 (.slice a n c) n xs) : n ≤ c := by
  rcases h.2 with ⟨h1, h2⟩ | ⟨g, cap, cur, h1, _, _, h2, _⟩
  · cases h1; exact Nat.le_refl _
  · cases h1; exact h2
theorem joinL_snoc (L : List (List UInt8)) (x : List UInt8) : joinL (L ++ [x]) = joinL L ++ (x ++ [10]) := by rw [join_app]; rfl
def textL (es : List Ent) : List UInt8 := (es.map fun a => lineD a ++ [10]).flatten
theorem textL_join : ∀ es : List Ent, joinL (es.map lineD) = textL es
  | [] => rfl
  | a :: es => by rw [List.map_cons, joinL, textL_join es]; simp [textL]
theorem print_is (t : Tb) : printL t = (lineU t.u ++ [10] ++ (lineE t.e ++ [10])) ++ textL t.es ++ (lineH (sumL t) ++ [10]) := by
  unfold printL fileL
  rw [joinL, joinL, join_app, textL_join]
  simp [joinL]
theorem lineD_len (a : Ent) : (lineD a).length ≤ 37 := by
  have h1 := decD_len a.1
  have h2 := decD_len a.2
  unfold lineD
  simp only [List.length_append, List.length_cons]
  omega
theorem textL_len : ∀ es : List Ent, (textL es).length ≤ 38 * es.length
  | [] => Nat.le_refl _
  | a :: es => by
    have := textL_len es
    have h1 := lineD_len a
    unfold textL at this ⊢
    simp only [List.map_cons, List.flatten_cons, List.length_append, List.length_cons, List.length_nil]
    omega
theorem hexs_len : ∀ ws : List Int, ((ws.map fun n => 9 :: hexW n).flatten).length = 9 * ws.length
  | [] => rfl
  | n :: ws => by
    have := hexs_len ws
    have h8 : (hexW n).length = 8 := hexP_len 8 _
    simp only [List.map_cons, List.flatten_cons, List.length_append, List.length_cons, h8]
    omega
theorem print_len {t : Tb} (hb : canBe t = true) : (printL t).length ≤ 4000 := by
  have h1 := decD_len t.u
  have h2 := decD_len t.e
  have h3 := textL_len t.es
  have h4 := can_len hb
  have h5 := hexs_len (sumL t)
  rw [sumL_len] at h5
  rw [print_is]
  unfold lineU lineE lineH
  simp only [List.length_append, List.length_cons, List.length_nil]
  omega
theorem tabH : ∀ ws : List Int, tabJ ([35, 104] :: ws.map hexW) = lineH ws
  | [] => rfl
  | n :: ws => by
    have key : ∀ (x : List UInt8) (ws : List Int), tabJ (x :: ws.map hexW) = x ++ (ws.map fun n => 9 :: hexW n).flatten := by
      intro x ws
      induction ws generalizing x with
      | nil => simp [tabJ]
      | cons m ws ih => rw [List.map_cons, tabJ, ih]; simp
    exact key _ _

theorem pprint_yes (t : Tb) (hb : canBe t = true) (hu : I64 t.u) (he : I64 t.e) {v : Value} {w : World} (hv : EntAt w v t.es) (hT : Tab w) : Calls Tryd.prog 12 #[tbV t v] w fun e w' => ∃ r, e = .returned r ∧ r = .string ⟨⟨printL t⟩⟩ ∧ Below w.heap.size w w' := by
  rw [print_is]
  have hin5 := sumL_in t
  have hlen5 := sumL_len t
  have hlen := can_len hb
  obtain ⟨⟨u0, u1⟩, ⟨e0, e1⟩, _⟩ := can_num hb
  obtain ⟨tu, te, es⟩ := t
  simp only at hu he hv hlen u0 u1 e0 e1 hin5 hlen5
  unfold I64 at hu he
  unfold tbV
  obtain ⟨va, vc, rfl, hlc⟩ : ∃ va vc, v = .slice va es.length vc ∧ es.length ≤ vc := by
    obtain ⟨va, vc, h1, h2, _⟩ := hv
    exact ⟨va, vc, h1, h2⟩
  obtain ⟨ws, hws⟩ : ∃ ws, sumL ⟨tu, te, es⟩ = ws := ⟨_, rfl⟩
  rw [hws] at hin5 hlen5 ⊢
  refine calls_Wp (args := [_]) (n := 63) Tryd.func12 rfl rfl (by simp) ?_
  refine Wp.seq ?_
  refine Wp.region [0, 1] (by kernel_rfl) (by kernel_rfl) ?_
  refine s_box rfl rfl rfl rfl rfl rfl (fun bk1 w1 kb1 lw1 => ?_)
  refine s_assign rfl rfl rfl rfl ?_
  refine vOrd_nil ?_
  refine Wp.seq ?_
  refine Wp.seq ?_
  refine Wp.old (fun lo1 => ?_)
  refine Wp.old (fun lo => ?_)
  have tb := hT.later lo
  clear lo
  refine Wp.region [0, 1, 2, 3, 4, 5, 6] (by kernel_rfl) (by kernel_rfl) ?_
  refine s_load rfl rfl rfl rfl rfl rfl rfl ?_
  refine s_callT rfl rfl rfl (by kernel_rfl) rfl (check_yes (t := ⟨tu, te, es⟩) hb hu he (hv.later lo1)) ?_
  rintro v w2 rfl lw2
  replace tb := tb.later lw2
  refine s_move rfl rfl rfl rfl ?_
  refine s_extract rfl rfl rfl rfl rfl ?_
  refine s_extract rfl rfl rfl rfl rfl ?_
  refine s_assign rfl rfl rfl rfl ?_
  refine s_assign rfl rfl rfl rfl ?_
  refine vOrd_nil ?_
  refine Wp.seq ?_
  refine Wp.region [0, 1] (by kernel_rfl) (by kernel_rfl) ?_
  refine s_move rfl rfl rfl rfl ?_
  refine f_neq rfl rfl rfl rfl rfl (by omega) ?_
  refine vOrd_nil ?_
  refine Wp.condF rfl rfl ?_
  refine Wp.skip ?_
  refine Wp.seq ?_
  refine Wp.old (fun lo => ?_)
  have tb := hT.later lo
  clear lo
  refine (Wp.drawn (by kernel_rfl) (by kernel_rfl) [0, 1, 5, 6, 2, 3, 4, 7, 8, 9, 10, 11] [96, 97, 31, 63, 0, 0, 0, 0, 0, 0, 0, 0] (by kernel_rfl) (by kernel_rfl) (fun | 2 => fun v _ => v = .string ⟨⟨decD tu⟩⟩ | 3 => fun v w => ∃ c, v = .slice (some ⟨c, 0, none⟩) 2 2 ∧ StrAt w (some ⟨c, 0, none⟩) [[35, 36], decD tu] | 4 => fun v _ => v = .string ⟨⟨tabJ [[35, 36], decD tu] ++ [10]⟩⟩ | 7 => fun v _ => v = .string ⟨⟨decD te⟩⟩ | 8 => fun v w => ∃ c, v = .slice (some ⟨c, 0, none⟩) 2 2 ∧ StrAt w (some ⟨c, 0, none⟩) [[35, 64], decD te] | 9 => fun v _ => v = .string ⟨⟨tabJ [[35, 64], decD te] ++ [10]⟩⟩ | _ => fun _ _ => True) (fun wd ld => ?_))
  replace tb := tb.later ld
  clear ld
  refine s_field 0 rfl rfl rfl rfl rfl ?_
  refine s_load rfl rfl rfl rfl rfl rfl rfl ?_
  refine s_field 1 rfl rfl rfl rfl rfl ?_
  refine s_load rfl rfl rfl rfl rfl rfl rfl ?_
  refine s_callD rfl rfl rfl (by kernel_rfl) rfl (fun wc lc => itoa_any u0 u1 (tb.later lc)) ?_
  rintro v w3 u3 rfl lw3 mw3
  replace tb := (tb.later lw3).later mw3
  refine s_bsD (e := 9) (cs := strsV [[35, 36], decD tu]) rfl rfl rfl (fun _ => by kernel_rfl) (fun c w' _ hr => ⟨c, rfl, row_strs hr⟩) ?_
  rintro v wq1 uq1 ⟨cb1, rfl, hs1⟩ lwq1 mwq1
  replace tb := (tb.later lwq1).later mwq1
  have hz1 := hs1.later mwq1
  refine s_callD rfl rfl rfl (by kernel_rfl) rfl (fun wc lc => line_any (L := [[35, 36], decD tu]) (hz1.later lc) (by simp) (by simp) (by simp) (by have := decD_len (tu); simp only [tabJ, List.length_append, List.length_cons, List.length_nil]; omega)) ?_
  rintro v w8 u8 rfl lw8 mw8
  replace tb := (tb.later lw8).later mw8
  refine s_callD rfl rfl rfl (by kernel_rfl) rfl (fun wc lc => itoa_any e0 e1 (tb.later lc)) ?_
  rintro v w9 u9 rfl lw9 mw9
  replace tb := (tb.later lw9).later mw9
  refine s_bsD (e := 9) (cs := strsV [[35, 64], decD te]) rfl rfl rfl (fun _ => by kernel_rfl) (fun c w' _ hr => ⟨c, rfl, row_strs hr⟩) ?_
  rintro v wq2 uq2 ⟨cb2, rfl, hs2⟩ lwq2 mwq2
  replace tb := (tb.later lwq2).later mwq2
  have hz2 := hs2.later mwq2
  refine s_callD rfl rfl rfl (by kernel_rfl) rfl (fun wc lc => line_any (L := [[35, 64], decD te]) (hz2.later lc) (by simp) (by simp) (by simp) (by have := decD_len (te); simp only [tabJ, List.length_append, List.length_cons, List.length_nil]; omega)) ?_
  rintro v w14 u14 rfl lw14 mw14
  replace tb := (tb.later lw14).later mw14
  refine b_cat rfl rfl rfl rfl rfl ((by have := decD_len tu; have := decD_len te; simp only [tabJ, List.length_append, List.length_cons, List.length_nil]; omega)) ?_
  refine s_assign rfl rfl rfl rfl ?_
  refine vOrd_nil ?_
  refine Wp.seq ?_
  refine Wp.seq ?_
  refine Wp.old (fun lo => ?_)
  have tb := hT.later lo
  clear lo
  refine Wp.region [0, 1, 2, 3] (by kernel_rfl) (by kernel_rfl) ?_
  refine s_field 2 rfl rfl rfl rfl rfl ?_
  refine s_load rfl rfl rfl rfl rfl rfl rfl ?_
  refine x_len rfl rfl rfl rfl rfl ?_
  refine s_move rfl rfl rfl rfl ?_
  refine vOrd_nil ?_
  refine Wp.block ?_
  refine Wp.loop (fun k st W => ∃ (i : Nat) (p : Int) (s : List UInt8), st = St.of [(1, .p 1 bk1 0), (5, .v (.string ⟨⟨s⟩⟩)), (30, .v (.slice va es.length vc)), (31, .v (.int .i64 (es.length : Int))), (32, .v (.int .i64 p))] [(1, bk1, [.int .i64 tu, .int .i64 te, .slice va es.length vc])] ∧ p = i ∧ i ≤ es.length ∧ s = (lineU tu ++ [10] ++ (lineE te ++ [10])) ++ ((es.take i).map (fun a => lineD a ++ [10])).flatten ∧ s.length ≤ 100 + 60 * i ∧ k = es.length - i) ?_ ?_
  · exact ⟨_, _, (St.of_le' (env := [(1, .p 1 _ 0), (5, .v _), (30, .v _), (31, .v _), (32, .v _)]) (mem := [(1, _, [_, _, _])]) ⟨rfl, rfl, rfl, rfl, rfl, trivial⟩ ⟨rfl, trivial⟩), 0, _, _, rfl, rfl, Nat.zero_le _, by simp [tabJ, lineU, lineE], (by have := decD_len (tu); have := decD_len (te); simp only [tabJ, List.length_append, List.length_cons, List.length_nil]; omega), rfl⟩
  · rintro k st w15 ⟨i, p, s, rfl, rfl, hi, hs, hsl, rfl⟩
    refine Wp.seq ?_
    refine Wp.region [0] (by kernel_rfl) (by kernel_rfl) ?_
    refine p_lss rfl rfl rfl rfl rfl (fun h33 => ?_) (fun h33 => ?_)
    · refine vOrd_nil ?_
      refine Wp.seq ?_
      refine Wp.condT rfl rfl ?_
      refine Wp.skip ?_
      refine Wp.seq ?_
      refine Wp.block ?_
      refine Wp.seq ?_
      have hin : i < es.length := by omega
      obtain ⟨x, hx⟩ : ∃ x, es[i]? = some x := ⟨es[i], List.getElem?_eq_getElem hin⟩
      refine Wp.old (fun lo => ?_)
      have hE := hv.later lo
      obtain ⟨va1, vc1, ev, _, hcell⟩ := hE
      obtain ⟨i1, i2, vb, vo, rfl, k1, k2⟩ := hcell _ x hx
      cases ev
      unfold I64 at i1 i2
      clear hcell
      obtain ⟨⟨a0, a1⟩, b0, b1⟩ := can_ent hb hx
      refine Wp.region [0, 1, 2, 3] (by kernel_rfl) (by kernel_rfl) ?_
      refine s_idx (sz := 2) (vo + i * 2) rfl rfl rfl rfl rfl rfl rfl (by omega) (by omega) (by omega) ?_
      refine x_ldA [.int .i64 x.1, .int .i64 x.2] rfl rfl rfl rfl rfl rfl (World.block_lt_of_cell? _ _ k1) (fun j u hj => ?_) ?_
      · match j, hj with
        | 0, hj => cases hj; exact k1
        | 1, hj => cases hj; exact k2
      refine s_alloc rfl rfl rfl rfl rfl (fun bk21 w21 kb21 lw21 => ?_)
      refine s_store rfl rfl rfl rfl rfl rfl rfl (fun w22 sw22 vw22 => ?_)
      refine vOrd_nil ?_
      refine Wp.old (fun lo => ?_)
      have tb := hT.later lo
      clear lo
      refine (Wp.drawn (by kernel_rfl) (by kernel_rfl) [0, 1, 2, 4, 5, 3, 6, 7, 8, 9, 10] [510, 49, 51, 15, 31, 0, 0, 0, 0, 0, 0] (by kernel_rfl) (by kernel_rfl) (fun | 3 => fun v _ => v = .string ⟨⟨decD x.1⟩⟩ | 6 => fun v _ => v = .string ⟨⟨decD x.2⟩⟩ | 7 => fun v w => ∃ c, v = .slice (some ⟨c, 0, none⟩) 2 2 ∧ StrAt w (some ⟨c, 0, none⟩) [decD x.1, decD x.2] | 8 => fun v _ => v = .string ⟨⟨tabJ [decD x.1, decD x.2] ++ [10]⟩⟩ | _ => fun _ _ => True) (fun wd ld => ?_))
      replace tb := tb.later ld
      clear ld
      refine s_move rfl rfl rfl rfl ?_
      refine s_field 0 rfl rfl rfl rfl rfl ?_
      refine s_load rfl rfl rfl rfl rfl rfl rfl ?_
      refine s_field 1 rfl rfl rfl rfl rfl ?_
      refine s_load rfl rfl rfl rfl rfl rfl rfl ?_
      refine s_callD rfl rfl rfl (by kernel_rfl) rfl (fun wc lc => itoa_any a0 (by omega) (tb.later lc)) ?_
      rintro v w23 u23 rfl lw23 mw23
      replace tb := (tb.later lw23).later mw23
      refine s_callD rfl rfl rfl (by kernel_rfl) rfl (fun wc lc => itoa_any b0 (by omega) (tb.later lc)) ?_
      rintro v w24 u24 rfl lw24 mw24
      replace tb := (tb.later lw24).later mw24
      refine s_bsD (e := 9) (cs := strsV [decD x.1, decD x.2]) rfl rfl rfl (fun _ => by kernel_rfl) (fun c w' _ hr => ⟨c, rfl, row_strs hr⟩) ?_
      rintro v wq3 uq3 ⟨cb3, rfl, hs3⟩ lwq3 mwq3
      replace tb := (tb.later lwq3).later mwq3
      have hz3 := hs3.later mwq3
      refine s_callD rfl rfl rfl (by kernel_rfl) rfl (fun wc lc => line_any (L := [decD x.1, decD x.2]) (hz3.later lc) (by simp) (by simp) (by simp) (by have := decD_len (x.1); have := decD_len (x.2); simp only [tabJ, List.length_append, List.length_cons]; omega)) ?_
      rintro v w29 u29 rfl lw29 mw29
      replace tb := (tb.later lw29).later mw29
      refine b_cat rfl rfl rfl rfl rfl ((by have := decD_len (x.1); have := decD_len (x.2); simp only [tabJ, List.length_append, List.length_cons, List.length_nil]; omega)) ?_
      refine s_assign rfl rfl rfl rfl ?_
      refine vOrd_nil ?_
      refine Wp.region [0, 1] (by kernel_rfl) (by kernel_rfl) ?_
      refine a_add (-9223372036854775808) 9223372036854775807 (by decide) rfl rfl rfl rfl rfl (by omega) (by omega) ?_
      refine s_move rfl rfl rfl rfl ?_
      refine vOrd_nil ?_
      exact ⟨_, _, by omega, (St.of_le' (env := [(1, .p 1 _ 0), (5, .v _), (30, .v _), (31, .v _), (32, .v _)]) (mem := [(1, _, [_, _, _])]) ⟨rfl, rfl, rfl, rfl, rfl, trivial⟩ ⟨rfl, trivial⟩), i + 1, _, _, rfl, by omega, by omega, by rw [hs, flat_snoc _ hx]; simp [tabJ, lineD], (by have := decD_len (x.1); have := decD_len (x.2); simp only [tabJ, List.length_append, List.length_cons, List.length_nil]; omega), rfl⟩
    · refine vOrd_nil ?_
      refine Wp.seq ?_
      refine Wp.condF rfl rfl ?_
      refine Wp.exit ?_
      refine Wp.seq ?_
      have hsf : s = (lineU tu ++ [10] ++ (lineE te ++ [10])) ++ textL es := by
        rw [hs, show i = es.length by omega, List.take_length]; rfl
      clear hs
      refine Wp.var (h := 1) rfl (fun hvar => ?_)
      have hb1 := hvar.lt
      clear hvar
      refine Wp.region [0, 1] (by kernel_rfl) (by kernel_rfl) ?_
      refine s_bs (e := 9) (cs := strsV [[35, 104]]) rfl rfl rfl (fun _ => by kernel_rfl) ?_
      intro cbh wbh hcbh lbh hrowh
      have hown := own_of_row (base := bk1 + 1) (sz := 1) (n := 1) hrowh (by omega) rfl (by decide)
      have hsz := Nat.le_trans hb1 lbh.size
      refine s_assign rfl rfl rfl rfl ?_
      refine vOrd_nil ?_
      refine Wp.seq ?_
      refine Wp.seq ?_
      refine Wp.old (fun lo1 => ?_)
      refine Wp.old (fun lo => ?_)
      have tb := hT.later lo
      clear lo
      refine Wp.region [0, 1, 2] (by kernel_rfl) (by kernel_rfl) ?_
      refine s_load rfl rfl rfl rfl rfl rfl rfl ?_
      refine s_callT rfl rfl rfl (by kernel_rfl) rfl (psum_any ⟨tu, te, es⟩ hb hu he (hv.later lo1) tb) ?_
      rintro v w34 rfl lw34
      replace tb := tb.later lw34
      rw [hws]
      replace hown := own_later hown lw34
      replace hsz := Nat.le_trans hsz lw34.size
      refine s_move rfl rfl rfl rfl ?_
      refine vOrd_nil ?_
      refine Wp.block ?_
      refine Wp.loop (fun k st W => ∃ (i : Nat) (p : Int) (pa : Option Addr) (pc : Nat), st = St.of [(5, .v (.string ⟨⟨s⟩⟩)), (8, .v (.slice pa (i + 1) pc)), (49, .v (wsV ws)), (50, .v (.int .i64 p))] [(1, bk1, [.int .i64 tu, .int .i64 te, .slice va es.length vc])] ∧ W.ownsRow (bk1 + 1) 9 1 (.slice pa (i + 1) pc) (i + 1) (strsV ([35, 104] :: (ws.take i).map hexW)) ∧ bk1 + 1 ≤ W.heap.size ∧ p = i ∧ i ≤ 5 ∧ k = 5 - i) ?_ ?_
      · exact ⟨_, _, (St.of_le' (env := [(5, .v _), (8, .v _), (49, .v _), (50, .v _)]) (mem := [(1, _, [_, _, _])]) ⟨rfl, rfl, rfl, rfl, trivial⟩ ⟨rfl, trivial⟩), 0, _, _, _, rfl, hown, hsz, rfl, Nat.zero_le _, rfl⟩
      · rintro k st w35 ⟨j, p, pa, pc, rfl, hown, hsz, rfl, hi5, rfl⟩
        refine Wp.seq ?_
        refine Wp.region [0] (by kernel_rfl) (by kernel_rfl) ?_
        refine p_lss rfl rfl rfl rfl rfl (fun h51 => ?_) (fun h51 => ?_)
        · refine vOrd_nil ?_
          refine Wp.seq ?_
          refine Wp.condT rfl rfl ?_
          refine Wp.skip ?_
          refine Wp.seq ?_
          refine Wp.block ?_
          refine Wp.seq ?_
          obtain ⟨m, hm⟩ : ∃ m, ws[j]? = some m := ⟨ws[j], List.getElem?_eq_getElem (by omega)⟩
          obtain ⟨m0, m1⟩ := hin5 m (List.mem_of_getElem? hm)
          obtain ⟨N, rfl⟩ := Int.eq_ofNat_of_zero_le m0
          refine Wp.region [0, 1] (by kernel_rfl) (by kernel_rfl) ?_
          refine s_idxV (v := .int .u32 (N : Int)) rfl rfl rfl rfl rfl rfl rfl rfl (by omega) (by omega) (by simp [hm]) ?_
          refine s_assign rfl rfl rfl rfl ?_
          refine vOrd_nil ?_
          refine Wp.old (fun lo => ?_)
          have tb := hT.later lo
          clear lo
          refine Wp.region [0, 1, 2, 3, 4, 5] (by kernel_rfl) (by kernel_rfl) ?_
          refine s_move rfl rfl rfl rfl ?_
          refine s_move rfl rfl rfl rfl ?_
          refine s_callT rfl rfl rfl (by kernel_rfl) rfl (pword_any (by omega) tb) ?_
          rintro v w37 rfl lw37
          replace tb := tb.later lw37
          replace hown := own_later hown lw37
          replace hsz := Nat.le_trans hsz lw37.size
          refine s_bs (e := 9) (cs := strsV [hexW (N : Int)]) rfl rfl rfl (fun _ => by kernel_rfl) ?_
          intro cbw wbw hcbw lbw hroww
          replace hown := own_later hown lbw
          replace hsz := Nat.le_trans hsz lbw.size
          replace tb := tb.later lbw
          refine x_append (base := bk1 + 1) (sz := 1) (bs := 16) (n := j + 1) (m := 1) (xs := strsV ([35, 104] :: (ws.take j).map hexW)) rfl rfl rfl rfl rfl rfl rfl rfl rfl rfl rfl (by decide) hown hroww rfl rfl (by omega) (by omega) (by omega) (by omega) (own_apart hown (by repeat (first | exact AllMem.args | exact AllMem.of (by simp only [AllL, and_true]; omega) | refine AllMem.put ?_ | refine AllMem.new ?_ (by omega) | refine AllMem.set ?_ (by omega)))) ?_
          intro v2 w2a hown2 hg2
          have hsz2 := Nat.le_trans hsz hg2.size
          rw [show strsV ([35, 104] :: (ws.take j).map hexW) ++ strsV [hexW (N : Int)] = strsV ([35, 104] :: (ws.take (j + 1)).map hexW) by rw [take_snoc hm]; simp [strsV]] at hown2
          obtain ⟨pa2, pc2, rfl⟩ := own_slice hown2
          refine s_assign rfl rfl rfl rfl ?_
          refine vOrd_nil ?_
          refine Wp.region [0, 1] (by kernel_rfl) (by kernel_rfl) ?_
          refine a_add (-9223372036854775808) 9223372036854775807 (by decide) rfl rfl rfl rfl rfl (by omega) (by omega) ?_
          refine s_move rfl rfl rfl rfl ?_
          refine vOrd_nil ?_
          exact ⟨_, _, by omega, (St.of_le' (env := [(5, .v _), (8, .v _), (49, .v _), (50, .v _)]) (mem := [(1, _, [_, _, _])]) ⟨rfl, rfl, rfl, rfl, trivial⟩ ⟨rfl, trivial⟩), j + 1, _, _, _, rfl, hown2, hsz2, by omega, by omega, rfl⟩
        · refine vOrd_nil ?_
          refine Wp.seq ?_
          refine Wp.condF rfl rfl ?_
          refine Wp.exit ?_
          refine Wp.seq ?_
          have hj5 : j = 5 := by omega
          subst hj5
          rw [List.take_of_length_le (by omega)] at hown
          have hl6 : ([35, 104] :: ws.map hexW).length = 5 + 1 := by rw [List.length_cons, List.length_map, hlen5]
          rw [← hl6] at hown ⊢
          obtain ⟨a6, c6, e6, hS6⟩ := own_strs hown
          cases e6
          have hc6 := own_strs2 hown
          refine Wp.old (fun lo1 => ?_)
          refine Wp.old (fun lo => ?_)
          have tb := hT.later lo
          clear lo
          refine Wp.region [0, 1, 2, 3, 4] (by kernel_rfl) (by kernel_rfl) ?_
          refine s_move rfl rfl rfl rfl ?_
          refine s_move rfl rfl rfl rfl ?_
          refine s_callT rfl rfl rfl (by kernel_rfl) rfl (line_any hS6 hc6 (by simp) (by omega) (by rw [tabH]; unfold lineH; have := hexs_len ws; simp only [List.length_append, List.length_cons, List.length_nil]; omega)) ?_
          rintro v w48 rfl lw48
          rw [tabH]
          refine b_cat rfl rfl rfl rfl rfl ((by have := hexs_len ws; have h3 := textL_len es; have := decD_len tu; have := decD_len te; rw [hsf]; unfold lineH lineU lineE; simp only [List.length_append, List.length_cons, List.length_nil]; omega)) ?_
          refine s_assign rfl rfl rfl rfl ?_
          refine vOrd_nil ?_
          refine Wp.ret ⟨.inr rfl, fun lW => ⟨_, res_tmp (P := Tryd.prog) rfl rfl, _, rfl, ?_, lW⟩⟩
          clear lW
          rw [hsf]
theorem five_V (s : Five) : fiveV s = .agg ((fiveL s).map (Value.int .i64)).toArray := by obtain ⟨a, b, c, d, e⟩ := s; rfl
theorem ints_one (ws : List Int) : (ws.map (Value.int .i64)).all (·.oneCell') = true := by
  rw [List.all_map, List.all_eq_true]; intro x _; rfl
theorem pow16 {j : Nat} (h : j ≤ 7) : (2 : Int) ^ min (28 - 4 * (j : Int)).toNat 64 = ((16 ^ (7 - j) : Nat) : Int) := by
  have key : ∀ j : Fin 8, (2 : Int) ^ min (28 - 4 * (j.val : Int)).toNat 64 = ((16 ^ (7 - j.val) : Nat) : Int) := by decide
  exact key ⟨j, by omega⟩
def hex16 : List UInt8 := [48, 49, 50, 51, 52, 53, 54, 55, 56, 57, 97, 98, 99, 100, 101, 102]
theorem hex_part (m : Nat) : (hex16.take (((m % 16 : Nat) : Int) + 1).toNat).drop ((m % 16 : Nat) : Int).toNat = [hxd m] := by
  have key : ∀ j : Fin 16, (hex16.take ((j.val : Int) + 1).toNat).drop (j.val : Int).toNat = [hxd j.val] := by decide
  have := key ⟨m % 16, Nat.mod_lt _ (by decide)⟩
  rw [← hxd_mod m]; exact this
theorem hexP_next {N j : Nat} (h : j ≤ 7) : hexP (j + 1) (N / 16 ^ (8 - (j + 1))) = hexP j (N / 16 ^ (8 - j)) ++ [hxd (N / 16 ^ (7 - j))] := by
  rw [hexP, Nat.div_div_eq_div_mul, show 8 - (j + 1) = 7 - j by omega, show 8 - j = (7 - j) + 1 by omega, Nat.pow_succ]

theorem rprint_any (t : Tb) (hb : canBe t = true) (hu : I64 t.u) (he : I64 t.e) {v : Value} {w : World} (hv : EntAt w v t.es) : Calls Tryd.prog 16 #[tbV t v] w fun e w' => ∃ r, e = .returned r ∧ r = .string ⟨⟨printL t⟩⟩ ∧ Below w.heap.size w w' := by
  rw [print_is]
  have hin5 := sumL_in t
  have hlen5 := sumL_len t
  have hdl := digits_len hb
  have hws0 : fiveL (shaF (digitsL t)) = sumL t := rfl
  have hlen := can_len hb
  obtain ⟨⟨u0, u1⟩, ⟨e0, e1⟩, _⟩ := can_num hb
  obtain ⟨tu, te, es⟩ := t
  simp only at hu he hv hlen u0 u1 e0 e1 hin5 hlen5 hdl hws0
  unfold I64 at hu he
  unfold tbV
  obtain ⟨va, vc, rfl, hlc⟩ : ∃ va vc, v = .slice va es.length vc ∧ es.length ≤ vc := by
    obtain ⟨va, vc, h1, h2, _⟩ := hv
    exact ⟨va, vc, h1, h2⟩
  obtain ⟨ws, hws⟩ : ∃ ws, sumL ⟨tu, te, es⟩ = ws := ⟨_, rfl⟩
  rw [hws] at hin5 hlen5 hws0 ⊢
  refine calls_Wp (args := [_]) (n := 76) Tryd.func16 rfl rfl (by simp) ?_
  refine Wp.seq ?_
  refine Wp.region [0, 1] (by kernel_rfl) (by kernel_rfl) ?_
  refine s_box rfl rfl rfl rfl rfl rfl (fun bk1 w1 kb1 lw1 => ?_)
  refine s_assign rfl rfl rfl rfl ?_
  refine vOrd_nil ?_
  refine Wp.seq ?_
  refine (Wp.drawn (by kernel_rfl) (by kernel_rfl) [0, 1, 5, 6, 2, 3, 4, 7, 8, 9, 10] [96, 97, 31, 63, 0, 231, 239, 0, 0, 0, 0] (by kernel_rfl) (by kernel_rfl) (fun | 2 => fun v _ => v = .string ⟨⟨decD tu⟩⟩ | 7 => fun v _ => v = .string ⟨⟨decD te⟩⟩ | _ => fun _ _ => True) (fun _ _ => ?_))
  refine s_field 0 rfl rfl rfl rfl rfl ?_
  refine s_load rfl rfl rfl rfl rfl rfl rfl ?_
  refine s_field 1 rfl rfl rfl rfl rfl ?_
  refine s_load rfl rfl rfl rfl rfl rfl rfl ?_
  refine s_callD rfl rfl rfl (by kernel_rfl) rfl (fun wc lc => refdecD u0 u1 wc) ?_
  rintro v w2 u2 rfl lw2 mw2
  refine b_cat rfl rfl rfl rfl rfl ((by have := decD_len (tu); simp only [List.length_cons, List.length_nil]; omega)) ?_
  refine b_cat rfl rfl rfl rfl rfl ((by have := decD_len (tu); simp only [List.length_append, List.length_cons, List.length_nil]; omega)) ?_
  refine s_callD rfl rfl rfl (by kernel_rfl) rfl (fun wc lc => refdecD e0 e1 wc) ?_
  rintro v w3 u3 rfl lw3 mw3
  refine b_cat rfl rfl rfl rfl rfl ((by have := decD_len (tu); have := decD_len (te); simp only [List.length_append, List.length_cons, List.length_nil]; omega)) ?_
  refine b_cat rfl rfl rfl rfl rfl ((by have := decD_len (tu); have := decD_len (te); simp only [List.length_append, List.length_cons, List.length_nil]; omega)) ?_
  refine s_assign rfl rfl rfl rfl ?_
  refine vOrd_nil ?_
  refine Wp.seq ?_
  refine Wp.seq ?_
  refine Wp.region [0] (by kernel_rfl) (by kernel_rfl) ?_
  refine s_assign rfl rfl rfl rfl ?_
  refine vOrd_nil ?_
  refine Wp.block ?_
  refine Wp.loop (fun k st W => ∃ (i : Nat) (p : Int) (s : List UInt8), st = St.of [(1, .p 1 bk1 0), (3, .v (.string ⟨⟨s⟩⟩)), (4, .v (.int .i64 p))] [(1, bk1, [.int .i64 tu, .int .i64 te, .slice va es.length vc])] ∧ p = i ∧ i ≤ es.length ∧ s = (lineU tu ++ [10] ++ (lineE te ++ [10])) ++ ((es.take i).map (fun a => lineD a ++ [10])).flatten ∧ s.length ≤ 100 + 60 * i ∧ k = es.length - i) ?_ ?_
  · exact ⟨_, _, (St.of_le' (env := [(1, .p 1 _ 0), (3, .v _), (4, .v _)]) (mem := [(1, _, [_, _, _])]) ⟨rfl, rfl, rfl, trivial⟩ ⟨rfl, trivial⟩), 0, _, _, rfl, rfl, Nat.zero_le _, by simp [lineU, lineE], (by have := decD_len (tu); have := decD_len (te); simp only [List.length_append, List.length_cons, List.length_nil]; omega), rfl⟩
  · rintro k st w4 ⟨i, p, s, rfl, rfl, hi, hs, hsl, rfl⟩
    refine Wp.seq ?_
    refine Wp.seq ?_
    refine Wp.region [0, 1, 2, 3, 4] (by kernel_rfl) (by kernel_rfl) ?_
    refine s_move rfl rfl rfl rfl ?_
    refine s_field 2 rfl rfl rfl rfl rfl ?_
    refine s_load rfl rfl rfl rfl rfl rfl rfl ?_
    refine x_len rfl rfl rfl rfl rfl ?_
    refine p_lss rfl rfl rfl rfl rfl (fun h23 => ?_) (fun h23 => ?_)
    · refine vOrd_nil ?_
      refine Wp.condT rfl rfl ?_
      refine Wp.skip ?_
      refine Wp.seq ?_
      refine Wp.block ?_
      have hin : i < es.length := by omega
      obtain ⟨x, hx⟩ : ∃ x, es[i]? = some x := ⟨es[i], List.getElem?_eq_getElem hin⟩
      refine Wp.old (fun lo => ?_)
      have hE := hv.later lo
      obtain ⟨va1, vc1, ev, _, hcell⟩ := hE
      obtain ⟨i1, i2, vb, vo, rfl, k1, k2⟩ := hcell _ x hx
      cases ev
      unfold I64 at i1 i2
      clear hcell
      obtain ⟨⟨a0, a1⟩, b0, b1⟩ := can_ent hb hx
      refine (Wp.drawn (by kernel_rfl) (by kernel_rfl) [0, 1, 2, 3, 4, 5, 6, 10, 11, 12, 13, 14, 15, 7, 8, 9, 16, 17, 18, 19] [130302, 64521, 64523, 64519, 64527, 64543, 64575, 5119, 6143, 4095, 8191, 16383, 32767, 0, 130303, 130559, 0, 0, 0, 0] (by kernel_rfl) (by kernel_rfl) (fun | 7 => fun v _ => v = .string ⟨⟨decD x.1⟩⟩ | 16 => fun v _ => v = .string ⟨⟨decD x.2⟩⟩ | _ => fun _ _ => True) (fun wd ld => ?_))
      have k1 := (World.cell?_of_block (ld.block _ (World.block_lt_of_cell? _ _ k1))).trans k1
      have k2 := (World.cell?_of_block (ld.block _ (World.block_lt_of_cell? _ _ k2))).trans k2
      refine s_move rfl rfl rfl rfl ?_
      refine s_field 2 rfl rfl rfl rfl rfl ?_
      refine s_load rfl rfl rfl rfl rfl rfl rfl ?_
      refine s_move rfl rfl rfl rfl ?_
      refine s_idx (sz := 2) (vo + i * 2) rfl rfl rfl rfl rfl rfl rfl (by omega) (by omega) (by omega) ?_
      refine s_fieldV (vo + i * 2) rfl rfl rfl rfl 0 rfl rfl ?_
      refine x_ldc rfl rfl rfl rfl rfl k1 ?_
      refine s_field 2 rfl rfl rfl rfl rfl ?_
      refine s_load rfl rfl rfl rfl rfl rfl rfl ?_
      refine s_move rfl rfl rfl rfl ?_
      refine s_idx (sz := 2) (vo + i * 2) rfl rfl rfl rfl rfl rfl rfl (by omega) (by omega) (by omega) ?_
      refine s_fieldV (vo + i * 2 + 1) rfl rfl rfl rfl 1 rfl rfl ?_
      refine x_ldc rfl rfl rfl rfl rfl k2 ?_
      refine s_callD rfl rfl rfl (by kernel_rfl) rfl (fun wc lc => refdecD a0 (by omega) wc) ?_
      rintro v w11 u11 rfl lw11 mw11
      refine b_cat rfl rfl rfl rfl rfl ((by have := decD_len (x.1); omega)) ?_
      refine b_cat rfl rfl rfl rfl rfl ((by have := decD_len (x.1); simp only [List.length_append, List.length_cons, List.length_nil]; omega)) ?_
      refine s_callD rfl rfl rfl (by kernel_rfl) rfl (fun wc lc => refdecD b0 (by omega) wc) ?_
      rintro v w12 u12 rfl lw12 mw12
      refine b_cat rfl rfl rfl rfl rfl ((by have := decD_len (x.1); have := decD_len (x.2); simp only [List.length_append, List.length_cons, List.length_nil]; omega)) ?_
      refine b_cat rfl rfl rfl rfl rfl ((by have := decD_len (x.1); have := decD_len (x.2); simp only [List.length_append, List.length_cons, List.length_nil]; omega)) ?_
      refine s_assign rfl rfl rfl rfl ?_
      refine vOrd_nil ?_
      refine Wp.region [0, 1, 2] (by kernel_rfl) (by kernel_rfl) ?_
      refine s_move rfl rfl rfl rfl ?_
      refine a_add (-9223372036854775808) 9223372036854775807 (by decide) rfl rfl rfl rfl rfl (by omega) (by omega) ?_
      refine s_assign rfl rfl rfl rfl ?_
      refine vOrd_nil ?_
      exact ⟨_, _, by omega, (St.of_le' (env := [(1, .p 1 _ 0), (3, .v _), (4, .v _)]) (mem := [(1, _, [_, _, _])]) ⟨rfl, rfl, rfl, trivial⟩ ⟨rfl, trivial⟩), i + 1, _, _, rfl, by omega, by omega, by rw [hs, flat_snoc _ hx]; simp [lineD], (by have := decD_len (x.1); have := decD_len (x.2); simp only [List.length_append, List.length_cons, List.length_nil]; omega), rfl⟩
    · refine vOrd_nil ?_
      refine Wp.condF rfl rfl ?_
      refine Wp.exit ?_
      refine Wp.seq ?_
      obtain ⟨s0, hs0⟩ : ∃ s0, s0 = (lineU tu ++ [10] ++ (lineE te ++ [10])) ++ textL es := ⟨_, rfl⟩
      have hse : s = s0 := by
        rw [hs, hs0, show i = es.length by omega, List.take_length]; rfl
      clear hs
      subst hse
      have hsl0 : s.length ≤ 4000 := by omega
      refine Wp.old (fun lo1 => ?_)
      refine Wp.region [0, 1, 2, 3, 4, 5] (by kernel_rfl) (by kernel_rfl) ?_
      refine s_load rfl rfl rfl rfl rfl rfl rfl ?_
      refine s_callT rfl rfl rfl (by kernel_rfl) rfl (rdig_any ⟨tu, te, es⟩ hb hu he (hv.later lo1)) ?_
      rintro v w13 rfl lw13
      refine x_bytesS rfl rfl rfl rfl rfl rfl rfl ?_
      intro cb capb zb wb hcb lb hcap hrow
      have hB := hrow.bytes hcap
      refine s_callT rfl rfl rfl (by kernel_rfl) rfl (rwords_any hB (by omega)) ?_
      rintro v w17 rfl lw17
      rw [five_V, hws0]
      refine s_allocS (List.replicate 5 (.int .i64 0)) rfl rfl rfl rfl (by kernel_rfl) (fun b5 wb5 kb5 lb5 => ?_)
      refine s_storeS rfl rfl rfl rfl rfl rfl (write_all (n := 5) rfl rfl (by simp [hlen5]) (ints_one ws)) (fun ws19 ss19 vs19 => ?_)
      refine vOrd_nil ?_
      refine Wp.seq ?_
      refine Wp.region [0, 1, 2] (by kernel_rfl) (by kernel_rfl) ?_
      refine s_move rfl rfl rfl rfl ?_
      refine b_cat rfl rfl rfl rfl rfl ((by simp only [List.length_cons, List.length_nil]; omega)) ?_
      refine s_assign rfl rfl rfl rfl ?_
      refine vOrd_nil ?_
      refine Wp.seq ?_
      refine Wp.seq ?_
      refine Wp.region [0] (by kernel_rfl) (by kernel_rfl) ?_
      refine s_assign rfl rfl rfl rfl ?_
      refine vOrd_nil ?_
      refine Wp.block ?_
      refine Wp.loop (fun k st W => ∃ (j : Nat) (p : Int) (x : List UInt8), st = St.of [(3, .v (.string ⟨⟨x⟩⟩)), (5, .p 5 b5 0), (6, .v (.int .i64 p))] [(5, b5, ws.map (Value.int .i64))] ∧ p = j ∧ j ≤ 5 ∧ x = s ++ [35, 104] ++ ((ws.take j).map (fun n => 9 :: hexW n)).flatten ∧ x.length ≤ 4002 + 9 * j ∧ k = 5 - j) ?_ ?_
      · exact ⟨_, _, (St.of_le' (env := [(3, .v _), (5, .p 5 _ 0), (6, .v _)]) (mem := [(5, _, _)]) ⟨rfl, rfl, rfl, trivial⟩ ⟨rfl, trivial⟩), 0, _, _, rfl, rfl, Nat.zero_le _, by simp, by simp only [List.length_append, List.length_cons, List.length_nil]; omega, rfl⟩
      · rintro k st w20 ⟨j, p, x, rfl, rfl, hj5, hx5, hxl, rfl⟩
        refine Wp.seq ?_
        refine Wp.seq ?_
        refine Wp.region [0, 1] (by kernel_rfl) (by kernel_rfl) ?_
        refine s_move rfl rfl rfl rfl ?_
        refine p_lss rfl rfl rfl rfl rfl (fun h52 => ?_) (fun h52 => ?_)
        · refine vOrd_nil ?_
          refine Wp.condT rfl rfl ?_
          refine Wp.skip ?_
          refine Wp.seq ?_
          refine Wp.block ?_
          refine Wp.seq ?_
          obtain ⟨m, hm⟩ : ∃ m, ws[j]? = some m := ⟨ws[j], List.getElem?_eq_getElem (by omega)⟩
          obtain ⟨m0, m1⟩ := hin5 m (List.mem_of_getElem? hm)
          obtain ⟨N, rfl⟩ := Int.eq_ofNat_of_zero_le m0
          refine Wp.region [0, 1, 2] (by kernel_rfl) (by kernel_rfl) ?_
          refine s_move rfl rfl rfl rfl ?_
          refine b_cat rfl rfl rfl rfl rfl ((by simp only [List.length_cons, List.length_nil]; omega)) ?_
          refine s_assign rfl rfl rfl rfl ?_
          refine vOrd_nil ?_
          refine Wp.seq ?_
          refine Wp.region [0] (by kernel_rfl) (by kernel_rfl) ?_
          refine s_assign rfl rfl rfl rfl ?_
          refine vOrd_nil ?_
          refine Wp.block ?_
          refine Wp.loop (fun k st W => ∃ (q : Nat) (r : Int) (z : List UInt8), st = St.of [(3, .v (.string ⟨⟨z⟩⟩)), (5, .p 5 b5 0), (6, .v (.int .i64 (j : Int))), (7, .v (.int .i64 r))] [(5, b5, ws.map (Value.int .i64))] ∧ r = 28 - 4 * (q : Int) ∧ q ≤ 8 ∧ z = x ++ [9] ++ hexP q (N / 16 ^ (8 - q)) ∧ z.length = x.length + 1 + q ∧ k = 8 - q) ?_ ?_
          · exact ⟨_, _, (St.of_le' (env := [(3, .v _), (5, .p 5 _ 0), (6, .v _), (7, .v _)]) (mem := [(5, _, _)]) ⟨rfl, rfl, rfl, rfl, trivial⟩ ⟨rfl, trivial⟩), 0, _, _, rfl, rfl, Nat.zero_le _, by simp [hexP], by simp, rfl⟩
          · rintro k st w21 ⟨q, r, z, rfl, rfl, hq, hz, hzl, rfl⟩
            refine Wp.seq ?_
            refine Wp.seq ?_
            refine Wp.region [0, 1] (by kernel_rfl) (by kernel_rfl) ?_
            refine s_move rfl rfl rfl rfl ?_
            refine p_geq rfl rfl rfl rfl rfl (fun h58 => ?_) (fun h58 => ?_)
            · have hq7 : q ≤ 7 := by omega
              refine vOrd_nil ?_
              refine Wp.condT rfl rfl ?_
              refine Wp.skip ?_
              refine Wp.seq ?_
              refine Wp.block ?_
              refine Wp.seq ?_
              refine Wp.region [0, 1, 2, 3, 4, 5, 6, 7] (by kernel_rfl) (by kernel_rfl) ?_
              refine s_move rfl rfl rfl rfl ?_
              refine s_idxO (sz := 1) (0 + (j) * 1) rfl rfl rfl rfl rfl rfl rfl (by omega) (by omega) (by omega) ?_
              refine s_loadS (v := .int .i64 (N : Int)) rfl rfl rfl rfl rfl (by rw [read_one rfl, Nat.zero_add, Nat.mul_one, List.getElem?_map, hm]; rfl) ?_
              refine s_move rfl rfl rfl rfl ?_
              refine a_conv (0) 18446744073709551615 (by decide) rfl rfl rfl rfl rfl rfl (by omega) (by omega) ?_
              refine a_shr ((16 ^ (7 - q) : Nat) : Int) rfl rfl rfl rfl rfl (by omega) (pow16 hq7) ?_
              rw [← Int.natCast_ediv]
              obtain ⟨D, hD⟩ : ∃ D, N / 16 ^ (7 - q) = D := ⟨_, rfl⟩
              have hDN : D ≤ N := hD ▸ Nat.div_le_self _ _
              rw [hD]
              refine a_and 63 9223372036854775807 (by decide) rfl rfl rfl rfl rfl (by omega) (by omega) (by omega) (by omega) ?_
              rw [and15]
              refine s_assign rfl rfl rfl rfl ?_
              refine vOrd_nil ?_
              refine Wp.region [0, 1, 2, 3, 4, 5, 6] (by kernel_rfl) (by kernel_rfl) ?_
              refine s_move rfl rfl rfl rfl ?_
              refine s_move rfl rfl rfl rfl ?_
              refine s_move rfl rfl rfl rfl ?_
              refine a_add (-9223372036854775808) 9223372036854775807 (by decide) rfl rfl rfl rfl rfl (by omega) (by omega) ?_
              refine b_part (l := hex16) rfl rfl rfl rfl rfl rfl rfl (by omega) (by omega) (by show _ ≤ ((16 : Nat) : Int); omega) ?_
              rw [hex_part]
              refine b_cat rfl rfl rfl rfl rfl ((by simp only [List.length_cons, List.length_nil]; omega)) ?_
              refine s_assign rfl rfl rfl rfl ?_
              refine vOrd_nil ?_
              refine Wp.region [0, 1, 2] (by kernel_rfl) (by kernel_rfl) ?_
              refine s_move rfl rfl rfl rfl ?_
              refine a_sub (-9223372036854775808) 9223372036854775807 (by decide) rfl rfl rfl rfl rfl (by omega) (by omega) ?_
              refine s_assign rfl rfl rfl rfl ?_
              refine vOrd_nil ?_
              exact ⟨_, _, by omega, (St.of_le' (env := [(3, .v _), (5, .p 5 _ 0), (6, .v _), (7, .v _)]) (mem := [(5, _, _)]) ⟨rfl, rfl, rfl, rfl, trivial⟩ ⟨rfl, trivial⟩), q + 1, _, _, rfl, by omega, by omega, by rw [hz, hexP_next hq7, hD]; simp, by simp only [List.length_append, List.length_cons, List.length_nil]; omega, rfl⟩
            · have hq8e : q = 8 := by omega
              refine vOrd_nil ?_
              refine Wp.condF rfl rfl ?_
              refine Wp.exit ?_
              subst hq8e
              have hxq : z = x ++ [9] ++ hexP 8 N := by rw [hz]; simp
              have hq8 : hexP 8 N = hexP 8 N := rfl
              refine Wp.region [0, 1, 2] (by kernel_rfl) (by kernel_rfl) ?_
              refine s_move rfl rfl rfl rfl ?_
              refine a_add (-9223372036854775808) 9223372036854775807 (by decide) rfl rfl rfl rfl rfl (by omega) (by omega) ?_
              refine s_assign rfl rfl rfl rfl ?_
              refine vOrd_nil ?_
              exact ⟨_, _, by omega, (St.of_le' (env := [(3, .v _), (5, .p 5 _ 0), (6, .v _)]) (mem := [(5, _, _)]) ⟨rfl, rfl, rfl, trivial⟩ ⟨rfl, trivial⟩), j + 1, _, _, rfl, by omega, by omega, by rw [hxq, hq8, flat_snoc _ hm, hx5]; simp [hexW], by omega, rfl⟩
        · refine vOrd_nil ?_
          refine Wp.condF rfl rfl ?_
          refine Wp.exit ?_
          refine Wp.seq ?_
          refine Wp.region [0, 1, 2] (by kernel_rfl) (by kernel_rfl) ?_
          refine s_move rfl rfl rfl rfl ?_
          refine b_cat rfl rfl rfl rfl rfl ((by simp only [List.length_cons, List.length_nil]; omega)) ?_
          refine s_assign rfl rfl rfl rfl ?_
          refine vOrd_nil ?_
          refine Wp.ret ⟨.inr rfl, fun lW => ⟨_, res_tmp (P := Tryd.prog) rfl rfl, _, rfl, ?_, lW⟩⟩
          clear lW
          rw [hx5, hs0, show j = 5 by omega, List.take_of_length_le (by omega)]
          simp [lineH]
end Go.Proofs.YthjgilocbfhffaaDoor
