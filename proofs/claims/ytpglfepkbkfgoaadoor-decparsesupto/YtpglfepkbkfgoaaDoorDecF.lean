/-
  The contract of the document's own answer for layer 4, Text: of numbers that fit in a Wide.
-/
import Derived.Test.YtpglfepkbkfgoaaDoorDecE
namespace Go.Proofs.YtpglfepkbkfgoaaDoor
open Go.RowKit
set_option maxRecDepth 100000

theorem Keeps.cell {w w' : World} {c off : Nat} {n : Int} (k : Keeps w w') (h : w.cell? ⟨c, off, none⟩ = some (.int .i64 n)) : w'.cell? ⟨c, off, none⟩ = some (.int .i64 n) := k _ _ _ h
theorem ab_ab (z : Int) : ab (ab z) = ab z := ab_pos (by unfold ab; split <;> omega)
theorem IsBig.abs {n : Nat} {z : Int} {s : Value} {a : Option Addr} {l c : Nat} {w : World} (h : IsBig n z (.agg #[s, .slice a l c]) w) : IsBig n (ab z) (.agg #[.bool false, .slice a l c]) w := by
  obtain ⟨a', l', c', e, ds, d1, d2, d3, d4, d5⟩ := h
  simp only [Value.agg.injEq, Array.mk.injEq, List.cons.injEq, Value.slice.injEq, and_true] at e
  obtain ⟨_, rfl, rfl, rfl⟩ := e
  have hs : sg (ab z) = false := sg_pos (by unfold ab; split <;> omega)
  exact ⟨a, l, c, by rw [hs], ds, d1, d2, d3, d4, by rw [ab_ab]; exact d5⟩
theorem big_first {n : Nat} {w : World} {a : Option Addr} {l c : Nat} {z : Int} (h : BigIs n w (.slice a l c) z) (h0 : 0 < z) (h1 : z < 65536) : ∃ b off, a = some ⟨b, off, none⟩ ∧ 0 < l ∧ w.cell? ⟨b, off, none⟩ = some (.int .i64 z) := by
  obtain ⟨ds, d1, d2, d3, d4, d5, rfl⟩ := h.open
  rw [ab_pos (by omega)] at d5
  obtain ⟨ao, b, off, cap, e1, e2, e3, e4, e5⟩ := d1
  cases ds with
  | nil => simp [val] at d5; omega
  | cons x r =>
    have hl : 0 < (x :: r).length := by simp
    have ea := some_of e4 (by omega)
    subst ea
    have ec := e5 0 hl
    simp only [Value.slice.injEq] at e1
    obtain ⟨rfl, _, rfl⟩ := e1
    refine ⟨b, off, rfl, hl, ?_⟩
    rw [Nat.add_zero] at ec
    rw [ec]
    have hx : dg (x :: r) 0 = x := rfl
    have hd := d2 0
    have hx' : (x :: r).getD 0 0 = x := rfl
    rw [hx'] at hd
    have hv := (val_range (zs := r) (fun i => by have := d2 (i + 1); simpa using this)).1
    simp only [val] at d5
    rw [hx, show x = z by omega]
theorem one_byte (q : Nat) : bytesV [UInt8.ofNat (48 + q % 10)] = [.int .u8 (48 + (q : Int) % 10)] := by
  simp only [bytesV, List.map_cons, List.map_nil, dig_nat]
  rw [show ((48 + q % 10 : Nat) : Int) = 48 + (q : Int) % 10 by omega]
theorem pad_next {q N j : Nat} (hq : q = N / 10 ^ j) : [UInt8.ofNat (48 + q % 10)] ++ pad j N = pad (j + 1) N := by
  rw [pad_front, hq]; rfl
theorem text_end {N j : Nat} (h0 : N / 10 ^ j = 0) (h1 : j = 0 ∨ N / 10 ^ (j - 1) ≠ 0) (hj : j ≤ 39) (hN : N ≠ 0) : decN N = pad j N := by
  cases j with
  | zero => simp at h0; exact absurd h0 hN
  | succ i =>
    have h2 : N / 10 ^ i ≠ 0 := by rcases h1 with h1 | h1; · omega
                                   · simpa using h1
    have hlt : N < 10 ^ (i + 1) := by
      rcases Nat.div_eq_zero_iff.1 h0 with q | q
      · have := Nat.pow_pos (n := i + 1) (show 0 < 10 by omega); omega
      · exact q
    have h3 : N / 10 ^ i < 10 := Nat.div_lt_of_lt_mul (by rw [Nat.pow_succ] at hlt; exact hlt)
    have hh : (pad (i + 1) N).head? ≠ some 48 := by
      rw [pad_front]
      simp only [List.head?_cons, ne_eq, Option.some.injEq]
      intro e
      have := congrArg UInt8.toNat e
      rw [dig_nat] at this
      have e48 : (48 : UInt8).toNat = 48 := rfl
      rw [e48] at this
      clear hlt h0 h1
      generalize N / 10 ^ i = y at *
      omega
    have hn := numD_pad (i + 1) N
    rw [Nat.mod_eq_of_lt hlt] at hn
    have := decN_of (pad_dig (i + 1) N) (by rw [pad_front]; simp) hh (by rw [pad_len]; exact hj)
    rw [hn] at this
    exact this
set_option maxHeartbeats 4000000 in
theorem rtext_any {n : Nat} {z : Int} {u : Value} {w : World} (hu : IsBig n z u w) (h0 : -170141183460469231731687303715884105728 ≤ z) (h1 : z < 170141183460469231731687303715884105728) :
    Calls Tryd.prog 9 #[u] w fun e w' => ∃ r, e = .returned r ∧ r = .string ⟨⟨decText z⟩⟩ ∧ Below w.heap.size w w' := by
  have hN : z.natAbs < 10 ^ 39 := by have := pow39; omega
  have hu8 := hu.tight (by omega) (by omega)
  obtain ⟨a, l, c, rfl, hb⟩ := id hu8
  have hlen := hb.len
  have hab : ab z = (z.natAbs : Int) := by unfold ab; split <;> omega
  refine calls_Wp (args := [_]) (n := 47) Tryd.func9 rfl rfl (by simp) ?_
  refine Wp.seq ?_
  refine Wp.region [0, 1] (by kernel_rfl) (by kernel_rfl) ?_
  refine s_box rfl rfl rfl rfl rfl rfl (fun bk1 w1 kb1 lw1 => ?_)
  refine s_assign rfl rfl rfl rfl ?_
  refine vOrd_nil ?_
  refine Wp.seq ?_
  refine Wp.seq ?_
  refine Wp.region [0, 1, 2, 3] (by kernel_rfl) (by kernel_rfl) ?_
  refine s_field 1 rfl rfl rfl rfl rfl ?_
  refine s_load rfl rfl rfl rfl rfl rfl rfl ?_
  refine x_len rfl rfl rfl rfl rfl ?_
  refine p_eql rfl rfl rfl rfl rfl (fun h11 => ?_) (fun h11 => ?_)
  · refine vOrd_nil ?_
    refine Wp.condT rfl rfl ?_
    refine Wp.seq ?_
    refine Wp.region [0] (by kernel_rfl) (by kernel_rfl) ?_
    refine s_assign rfl rfl rfl rfl ?_
    refine vOrd_nil ?_
    refine Wp.ret ⟨.inr rfl, fun lW => ⟨_, res_tmp (P := Tryd.prog) rfl rfl, _, rfl, ?_, lW⟩⟩
    clear lW
    have hz : z = 0 := hlen.2.1 (by omega)
    subst hz; rfl
  · refine vOrd_nil ?_
    refine Wp.condF rfl rfl ?_
    refine Wp.skip ?_
    refine Wp.seq ?_
    refine Wp.region [0] (by kernel_rfl) (by kernel_rfl) ?_
    refine s_assign rfl rfl rfl rfl ?_
    refine vOrd_nil ?_
    refine Wp.seq ?_
    refine Wp.seq ?_
    refine Wp.region [0, 1, 2, 3, 4] (by kernel_rfl) (by kernel_rfl) ?_
    refine s_field 1 rfl rfl rfl rfl rfl ?_
    refine s_load rfl rfl rfl rfl rfl rfl rfl ?_
    refine s_build rfl rfl rfl rfl rfl (by kernel_rfl) ?_
    refine s_alloc rfl rfl rfl rfl rfl (fun bk2 w2 kb2 lw2 => ?_)
    refine s_store rfl rfl rfl rfl rfl rfl rfl (fun w3 sw3 vw3 => ?_)
    refine vOrd_nil ?_
    refine Wp.block ?_
    refine Wp.loop (fun k st w2 => ∃ (j q b1 b4 : Nat) (sb : Bool) (na : Option Addr) (nl nc : Nat), st = St.of [(1, .p 1 b1 0), (3, .v (.string ⟨⟨pad j z.natAbs⟩⟩)), (4, .p 4 b4 0)] [(1, b1, [.bool (sg z), .slice a l c]), (4, b4, [.bool sb, .slice na nl nc])] ∧ q = z.natAbs / 10 ^ j ∧ j ≤ 39 ∧ (j = 0 ∨ z.natAbs / 10 ^ (j - 1) ≠ 0) ∧ q ≤ z.natAbs ∧ IsBig 8 (q : Int) (.agg #[.bool sb, .slice na nl nc]) w2 ∧ q = k) ?_ ?_
    · exact ⟨_, _, (St.of_le' (env := [(1, .p 1 _ 0), (3, .v _), (4, .p 4 _ 0)]) (mem := [(1, _, [_, _]), (4, _, [_, _])]) ⟨rfl, rfl, rfl, trivial⟩ ⟨rfl, rfl, trivial⟩), 0, z.natAbs, _, _, _, _, _, _, rfl, by simp, by omega, .inl rfl, Nat.le_refl _, (hu8.abs.eq hab).keeps (by repeat (first | exact Keeps.refl _ | refine Keeps.trans ?_ (Keeps.later (by assumption)) | refine Keeps.trans ?_ (Keeps.stored (by assumption) (by assumption) rfl) | refine Keeps.trans ?_ (Keeps.fresh (by assumption) (by assumption) (by assumption)))), rfl⟩
    · rintro k st w4 ⟨j, q, b1, b4, sb, na, nl, nc, rfl, hq, hj, hjq, hqn, hm, rfl⟩
      refine Wp.seq ?_
      refine Wp.seq ?_
      obtain ⟨_, _, _, em, hmb⟩ := id hm
      simp only [Value.agg.injEq, Array.mk.injEq, List.cons.injEq, Value.slice.injEq, and_true] at em
      obtain ⟨_, rfl, rfl, rfl⟩ := em
      have hml := hmb.len.2
      refine Wp.region [0, 1, 2, 3] (by kernel_rfl) (by kernel_rfl) ?_
      refine s_field 1 rfl rfl rfl rfl rfl ?_
      refine s_load rfl rfl rfl rfl rfl rfl rfl ?_
      refine x_len rfl rfl rfl rfl rfl ?_
      refine p_gtr rfl rfl rfl rfl rfl (fun h18 => ?_) (fun h18 => ?_)
      · have hq0 : q ≠ 0 := fun e => by have := hml.2 (by omega); omega
        have hj1 : j + 1 ≤ 39 := by
          by_cases g : j + 1 ≤ 39
          · exact g
          · exfalso
            have e39 : j = 39 := by omega
            rw [e39, Nat.div_eq_of_lt hN] at hq
            exact hq0 hq
        refine vOrd_nil ?_
        refine Wp.condT rfl rfl ?_
        refine Wp.skip ?_
        refine Wp.seq ?_
        refine Wp.block ?_
        refine Wp.seq ?_
        refine (Wp.drawn (by kernel_rfl) (by kernel_rfl) [0, 6, 7, 1, 2, 3, 4, 5, 8, 9] [194, 191, 127, 0, 0, 0, 239, 479, 0, 0] (by kernel_rfl) (by kernel_rfl) (fun | 1 => IsBig 5 10 | 2 => fun v w => ∃ x y, v = .tuple #[x, y] ∧ IsBig (max 8 4 + 1) ((q : Int) / 10) x w ∧ IsBig (5 + 1) ((q : Int) % 10) y w | _ => fun _ _ => True) (fun _ _ => ?_))
        refine s_load rfl rfl rfl rfl rfl rfl rfl ?_
        refine s_alloc rfl rfl rfl rfl rfl (fun bk5 w5 kb5 lw5 => ?_)
        refine s_alloc rfl rfl rfl rfl rfl (fun bk6 w6 kb6 lw6 => ?_)
        refine s_callD rfl rfl rfl (by kernel_rfl) rfl (fun wc lc => c_rint 10 (by decide) (by decide) wc) ?_
        rintro v w7 u7 h10 lw7 mw7
        refine s_callD rfl rfl rfl (by kernel_rfl) rfl (fun wc lc => c_div (hm.keeps (by repeat (first | exact Keeps.refl _ | refine Keeps.trans ?_ (Keeps.later (by assumption)) | refine Keeps.trans ?_ (Keeps.stored (by assumption) (by assumption) rfl) | refine Keeps.trans ?_ (Keeps.fresh (by assumption) (by assumption) (by assumption))))) (h10.keeps (by repeat (first | exact Keeps.refl _ | refine Keeps.trans ?_ (Keeps.later (by assumption)) | refine Keeps.trans ?_ (Keeps.stored (by assumption) (by assumption) rfl) | refine Keeps.trans ?_ (Keeps.fresh (by assumption) (by assumption) (by assumption))))) (by decide) (by decide) (by decide)) ?_
        rintro v w8 u8 ⟨x, y, rfl, hx, hy⟩ lw8 mw8
        replace hx := (hx.tight (by omega) (by omega)).eq (show (q : Int) / 10 = ((q / 10 : Nat) : Int) by omega)
        obtain ⟨xa, xl, xc, rfl, xb⟩ := id hx
        obtain ⟨ya, yl, yc, rfl, yb⟩ := id hy
        have hyl := yb.len.2
        clear xb
        refine s_move rfl rfl rfl rfl ?_
        refine s_extract rfl rfl rfl rfl rfl ?_
        refine s_extract rfl rfl rfl rfl rfl ?_
        refine s_store rfl rfl rfl rfl rfl rfl rfl (fun w9 sw9 vw9 => ?_)
        refine s_store rfl rfl rfl rfl rfl rfl rfl (fun w10 sw10 vw10 => ?_)
        refine vOrd_nil ?_
        refine Wp.seq ?_
        refine Wp.region [0] (by kernel_rfl) (by kernel_rfl) ?_
        refine s_assign rfl rfl rfl rfl ?_
        refine vOrd_nil ?_
        refine Wp.seq ?_
        refine Wp.seq ?_
        refine Wp.region [0, 1, 2, 3] (by kernel_rfl) (by kernel_rfl) ?_
        refine s_field 1 rfl rfl rfl rfl rfl ?_
        refine s_load rfl rfl rfl rfl rfl rfl rfl ?_
        refine x_len rfl rfl rfl rfl rfl ?_
        refine p_gtr rfl rfl rfl rfl rfl (fun h28 => ?_) (fun h28 => ?_)
        · obtain ⟨pb, po, rfl, hy0, hyc⟩ := big_first yb (by omega) (by omega)
          refine vOrd_nil ?_
          refine Wp.condT rfl rfl ?_
          refine Wp.region [0, 1, 2, 3, 4] (by kernel_rfl) (by kernel_rfl) ?_
          refine s_field 1 rfl rfl rfl rfl rfl ?_
          refine s_load rfl rfl rfl rfl rfl rfl rfl ?_
          refine s_idx (sz := 1) po rfl rfl rfl rfl rfl rfl rfl (by decide) (by omega) rfl ?_
          refine x_ldc rfl rfl rfl rfl rfl (Keeps.cell (by repeat (first | exact Keeps.refl _ | refine Keeps.trans ?_ (Keeps.later (by assumption)) | refine Keeps.trans ?_ (Keeps.stored (by assumption) (by assumption) rfl) | refine Keeps.trans ?_ (Keeps.fresh (by assumption) (by assumption) (by assumption)))) hyc) ?_
          refine s_assign rfl rfl rfl rfl ?_
          refine vOrd_nil ?_
          refine Wp.seq ?_
          refine Wp.region [0, 1, 2, 3, 4, 5, 6, 7] (by kernel_rfl) (by kernel_rfl) ?_
          refine s_move rfl rfl rfl rfl ?_
          refine a_add (-9223372036854775808) 9223372036854775807 (by decide) rfl rfl rfl rfl rfl (by omega) (by omega) ?_
          refine a_conv (0) 255 (by decide) rfl rfl rfl rfl rfl rfl (by omega) (by omega) ?_
          refine s_bs (e := 5) (cs := [.int .u8 (48 + (q : Int) % 10)]) rfl rfl rfl (fun _ => by kernel_rfl) ?_
          intro cb wb hcb lb hrow
          have hrow1 : RowIs wb cb 5 (bytesV [UInt8.ofNat (48 + q % 10)]) := by rw [one_byte]; exact hrow
          refine x_str rfl rfl rfl rfl rfl rfl rfl (own_of_row (base := 0) (sz := 1) hrow1 (Nat.zero_le _) (by rw [bytesV_len]; rfl) (by decide)) ?_
          refine s_move rfl rfl rfl rfl ?_
          refine b_cat rfl rfl rfl rfl rfl (by rw [pad_len]; simp only [List.length_cons, List.length_nil]; omega) ?_
          refine s_assign rfl rfl rfl rfl ?_
          refine vOrd_nil ?_
          rw [pad_next hq]
          refine Wp.region [0, 1] (by kernel_rfl) (by kernel_rfl) ?_
          refine s_load rfl rfl rfl rfl rfl rfl rfl ?_
          refine s_store rfl rfl rfl rfl rfl rfl rfl (fun w17 sw17 vw17 => ?_)
          refine vOrd_nil ?_
          refine Wp.seq ?_
          refine Wp.region [0] (by kernel_rfl) (by kernel_rfl) ?_
          refine s_load rfl rfl rfl rfl rfl rfl rfl ?_
          refine vOrd_nil ?_
          refine Wp.le ?_ (St.of_le' (env := [(1, .p 1 _ 0), (3, .v _), (41, .v _)]) (mem := [(1, _, [_, _])]) ⟨rfl, rfl, rfl, trivial⟩ ⟨rfl, trivial⟩)
          refine Wp.region [0, 1] (by kernel_rfl) (by kernel_rfl) ?_
          refine s_alloc rfl rfl rfl rfl rfl (fun bk18 w18 kb18 lw18 => ?_)
          refine s_store rfl rfl rfl rfl rfl rfl rfl (fun w19 sw19 vw19 => ?_)
          refine vOrd_nil ?_
          exact ⟨_, _, by omega, (St.of_le' (env := [(1, .p 1 _ 0), (3, .v _), (4, .p 4 _ 0)]) (mem := [(1, _, [_, _]), (4, _, [_, _])]) ⟨rfl, rfl, rfl, trivial⟩ ⟨rfl, rfl, trivial⟩), j + 1, q / 10, _, _, _, _, _, _, rfl, by rw [hq, Nat.div_div_eq_div_mul, Nat.pow_succ], hj1, .inr (by simp only [Nat.add_sub_cancel]; omega), by omega, hx.keeps (by repeat (first | exact Keeps.refl _ | refine Keeps.trans ?_ (Keeps.later (by assumption)) | refine Keeps.trans ?_ (Keeps.stored (by assumption) (by assumption) rfl) | refine Keeps.trans ?_ (Keeps.fresh (by assumption) (by assumption) (by assumption)))), rfl⟩
        · have hq10 : q % 10 = 0 := by have := hyl.1 (by omega); omega
          refine vOrd_nil ?_
          refine Wp.condF rfl rfl ?_
          refine Wp.skip ?_
          refine Wp.seq ?_
          refine Wp.region [0, 1, 2, 3, 4, 5, 6, 7] (by kernel_rfl) (by kernel_rfl) ?_
          refine s_move rfl rfl rfl rfl ?_
          refine a_add (-9223372036854775808) 9223372036854775807 (by decide) rfl rfl rfl rfl rfl (by omega) (by omega) ?_
          refine a_conv (0) 255 (by decide) rfl rfl rfl rfl rfl rfl (by omega) (by omega) ?_
          refine s_bs (e := 5) (cs := [.int .u8 (48 + 0)]) rfl rfl rfl (fun _ => by kernel_rfl) ?_
          intro cb wb hcb lb hrow
          have hrow1 : RowIs wb cb 5 (bytesV [UInt8.ofNat (48 + q % 10)]) := by rw [one_byte]; rw [show (q : Int) % 10 = 0 by omega]; exact hrow
          refine x_str rfl rfl rfl rfl rfl rfl rfl (own_of_row (base := 0) (sz := 1) hrow1 (Nat.zero_le _) (by rw [bytesV_len]; rfl) (by decide)) ?_
          refine s_move rfl rfl rfl rfl ?_
          refine b_cat rfl rfl rfl rfl rfl (by rw [pad_len]; simp only [List.length_cons, List.length_nil]; omega) ?_
          refine s_assign rfl rfl rfl rfl ?_
          refine vOrd_nil ?_
          rw [pad_next hq]
          refine Wp.region [0, 1] (by kernel_rfl) (by kernel_rfl) ?_
          refine s_load rfl rfl rfl rfl rfl rfl rfl ?_
          refine s_store rfl rfl rfl rfl rfl rfl rfl (fun w24 sw24 vw24 => ?_)
          refine vOrd_nil ?_
          refine Wp.seq ?_
          refine Wp.region [0] (by kernel_rfl) (by kernel_rfl) ?_
          refine s_load rfl rfl rfl rfl rfl rfl rfl ?_
          refine vOrd_nil ?_
          refine Wp.le ?_ (St.of_le' (env := [(1, .p 1 _ 0), (3, .v _), (41, .v _)]) (mem := [(1, _, [_, _])]) ⟨rfl, rfl, rfl, trivial⟩ ⟨rfl, trivial⟩)
          refine Wp.region [0, 1] (by kernel_rfl) (by kernel_rfl) ?_
          refine s_alloc rfl rfl rfl rfl rfl (fun bk25 w25 kb25 lw25 => ?_)
          refine s_store rfl rfl rfl rfl rfl rfl rfl (fun w26 sw26 vw26 => ?_)
          refine vOrd_nil ?_
          exact ⟨_, _, by omega, (St.of_le' (env := [(1, .p 1 _ 0), (3, .v _), (4, .p 4 _ 0)]) (mem := [(1, _, [_, _]), (4, _, [_, _])]) ⟨rfl, rfl, rfl, trivial⟩ ⟨rfl, rfl, trivial⟩), j + 1, q / 10, _, _, _, _, _, _, rfl, by rw [hq, Nat.div_div_eq_div_mul, Nat.pow_succ], hj1, .inr (by simp only [Nat.add_sub_cancel]; omega), by omega, hx.keeps (by repeat (first | exact Keeps.refl _ | refine Keeps.trans ?_ (Keeps.later (by assumption)) | refine Keeps.trans ?_ (Keeps.stored (by assumption) (by assumption) rfl) | refine Keeps.trans ?_ (Keeps.fresh (by assumption) (by assumption) (by assumption)))), rfl⟩
      · have hq0 : q = 0 := by have := hml.1 (by omega); omega
        refine vOrd_nil ?_
        refine Wp.condF rfl rfl ?_
        refine Wp.exit ?_
        have hz0 : z.natAbs ≠ 0 := fun e => h11 (by have := hlen.2.2 (by omega); omega)
        have hE := text_end (hq.symm.trans hq0) hjq hj hz0
        obtain ⟨T, hT⟩ : ∃ T, T = decN z.natAbs := ⟨_, rfl⟩
        have hTl : T.length ≤ 39 := by rw [hT]; exact decN_len _
        rw [← hE, ← hT]
        clear hE
        refine Wp.seq ?_
        refine Wp.seq ?_
        refine Wp.region [0, 1] (by kernel_rfl) (by kernel_rfl) ?_
        refine s_field 0 rfl rfl rfl rfl rfl ?_
        refine s_load rfl rfl rfl rfl rfl rfl rfl ?_
        refine vOrd_nil ?_
        refine Wp.cond rfl (okOpd_spec rfl) (fun c43 => ?_) (fun c43 => ?_)
        · refine Wp.seq ?_
          refine Wp.region [0, 1, 2] (by kernel_rfl) (by kernel_rfl) ?_
          refine s_move rfl rfl rfl rfl ?_
          refine b_cat rfl rfl rfl rfl rfl (by simp only [List.length_cons, List.length_nil]; omega) ?_
          refine s_assign rfl rfl rfl rfl ?_
          refine vOrd_nil ?_
          refine Wp.ret ⟨.inr rfl, fun lW => ⟨_, res_tmp (P := Tryd.prog) rfl rfl, _, rfl, ?_, lW⟩⟩
          clear lW
          have hz : z < 0 := by simpa [sg] using c43
          unfold decText; rw [if_pos hz, ← hT]; rfl
        · refine Wp.skip ?_
          refine Wp.seq ?_
          refine Wp.region [0, 1] (by kernel_rfl) (by kernel_rfl) ?_
          refine s_move rfl rfl rfl rfl ?_
          refine s_assign rfl rfl rfl rfl ?_
          refine vOrd_nil ?_
          refine Wp.ret ⟨.inr rfl, fun lW => ⟨_, res_tmp (P := Tryd.prog) rfl rfl, _, rfl, ?_, lW⟩⟩
          clear lW
          have hz : ¬ z < 0 := by simpa [sg] using c43
          unfold decText; rw [if_neg hz, ← hT]
end Go.Proofs.YtpglfepkbkfgoaaDoor
