/-
  The contracts of the document's own answer for layer 4: Number (of texts of at most 2,000,000 bytes) and Text (of numbers that fit in a Wide).
-/
import Derived.Test.YtpglfepkbkfgoaaDoorDecD
namespace Go.Proofs.YtpglfepkbkfgoaaDoor
open Go.RowKit
set_option maxRecDepth 100000

theorem big_zero (n : Nat) (w : World) : IsBig n 0 (.agg #[.bool false, .slice none 0 0]) w :=
  ⟨none, 0, 0, rfl, [], ⟨none, 0, 0, 0, rfl, Nat.le_refl _, by simp [maxLen], .inl ⟨rfl, rfl⟩, fun j hj => by simp at hj⟩, fun i => by simp, .inl rfl, Nat.zero_le _, rfl⟩
theorem IsBig.tightK {n : Nat} {z : Int} {v : Value} {w : World} (k : Nat) (h : IsBig n z v w) (h0 : -(pw k) < z) (h1 : z < pw k) : IsBig k z v w := by
  obtain ⟨a, l, c, rfl, ds, d1, d2, d3, d4, d5⟩ := h
  refine ⟨a, l, c, rfl, ds, d1, d2, d3, ?_, d5⟩
  by_cases g : ds = []
  · subst g; simp
  · have k1 := canon_low d2 d3 g
    by_cases k2 : ds.length ≤ k
    · exact k2
    · exfalso
      have k3 := pw_mono (show k ≤ ds.length - 1 by omega)
      have k5 : ab z < pw k := by unfold ab; split <;> omega
      omega
theorem ten_pw : ∀ i : Nat, (10 : Int) ^ i ≤ pw i
  | 0 => by simp [pw]
  | i + 1 => by
    rw [Int.pow_succ, pw_succ]
    have := ten_pw i
    have h0 := pw_pos i
    omega
theorem c_bneg {n : Nat} {z : Int} {u : Value} {w : World} (h : IsBig n z u w) : Calls Tryd.prog 26 #[u] w fun e w' => ∃ r, e = .returned r ∧ IsBig n (-z) r w' ∧ Below w.heap.size w w' := by
  obtain ⟨a, l, c, rfl, hb⟩ := h
  refine (neg_any hb).mono ?_
  rintro e w' ⟨rfl, h1, h2⟩
  exact ⟨_, rfl, ⟨_, _, _, rfl, h1⟩, h2⟩
def numV (l : List UInt8) : Int := if isNum l = true then numOf l else 0
theorem numV_no {l : List UInt8} (h : isNum l = false) : numV l = 0 := by unfold numV; rw [h]; rfl
theorem numV_yes {l : List UInt8} (h : isNum l = true) : numV l = numOf l := by unfold numV; rw [if_pos h]
theorem rnumber_any (t0 : List UInt8) (hl : t0.length ≤ 2000000) (w : World) :
    Calls Tryd.prog 11 #[.string ⟨⟨t0⟩⟩] w fun e w' => ∃ r, e = .returned r ∧ (∃ u, r = .tuple #[u, .bool (isNum t0)] ∧ IsBig (t0.length + 1) (numV t0) u w') ∧ Below w.heap.size w w' := by
  refine calls_Wp (args := [_]) (n := 64) Tryd.func11 rfl rfl (by simp) ?_
  refine Wp.seq ?_
  refine Wp.region [0, 1] (by kernel_rfl) (by kernel_rfl) ?_
  refine s_alloc rfl rfl rfl rfl rfl (fun bk1 w1 kb1 lw1 => ?_)
  refine s_assign rfl rfl rfl rfl ?_
  refine vOrd_nil ?_
  refine Wp.seq ?_
  refine Wp.region [0] (by kernel_rfl) (by kernel_rfl) ?_
  refine s_assign rfl rfl rfl rfl ?_
  refine vOrd_nil ?_
  refine Wp.seq ?_
  refine Wp.seq ?_
  refine Wp.region [0, 1, 2, 3, 4, 5, 6, 7] (by kernel_rfl) (by kernel_rfl) ?_
  refine s_move rfl rfl rfl rfl ?_
  refine b_len rfl rfl rfl rfl rfl ?_
  refine p_gtr rfl rfl rfl rfl rfl (fun h9 => ?_) (fun h9 => ?_)
  · cases t0 with
    | nil => simp at h9
    | cons b0 r0 =>
    skip
    refine s_move rfl rfl rfl rfl ?_
    refine s_move rfl rfl rfl rfl ?_
    refine b_byte rfl rfl rfl rfl rfl rfl (by omega) ((rfl : (b0 :: r0)[Int.toNat 0]? = some b0)) ?_
    refine p_eql rfl rfl rfl rfl rfl (fun h13 => ?_) (fun h13 => ?_)
    · have e45 : b0 = 45 := UInt8.toNat_inj.1 (by have : (45 : UInt8).toNat = 45 := rfl; omega)
      subst e45
      obtain ⟨t, ht⟩ : ∃ t, t = r0 := ⟨_, rfl⟩
      subst ht
      have hB : bodyL (45 :: t) = t := by simp [bodyL]
      have hM : minusL (45 :: t) = true := by simp [minusL]
      have hL : (45 :: t).length = t.length + 1 := rfl
      refine s_pick rfl rfl rfl rfl rfl ?_
      refine vOrd_nil ?_
      refine Wp.condT rfl rfl ?_
      refine Wp.region [0] (by kernel_rfl) (by kernel_rfl) ?_
      refine s_assign rfl rfl rfl rfl ?_
      refine vOrd_nil ?_
      refine Wp.seq ?_
      refine Wp.seq ?_
      refine Wp.region [0, 1, 2, 3, 4, 5, 6, 7, 8, 9, 10, 11, 12, 13] (by kernel_rfl) (by kernel_rfl) ?_
      refine s_move rfl rfl rfl rfl ?_
      refine b_len rfl rfl rfl rfl rfl ?_
      refine s_move rfl rfl rfl rfl ?_
      refine p_eql rfl rfl rfl rfl rfl (fun h18 => ?_) (fun h18 => ?_)
      · have et : t = [] := List.eq_nil_of_length_eq_zero (by omega)
        refine s_move rfl rfl rfl rfl ?_
        refine s_skip rfl rfl rfl ?_
        refine s_skip rfl rfl rfl ?_
        refine s_skip rfl rfl rfl ?_
        refine s_skip rfl rfl rfl ?_
        refine s_skip rfl rfl rfl ?_
        refine s_skip rfl rfl rfl ?_
        refine s_skip rfl rfl rfl ?_
        refine s_skip rfl rfl rfl ?_
        refine s_pick rfl rfl rfl rfl rfl ?_
        refine vOrd_nil ?_
        refine Wp.condT rfl rfl ?_
        refine Wp.seq ?_
        refine Wp.region [0, 1, 2] (by kernel_rfl) (by kernel_rfl) ?_
        refine s_build rfl rfl rfl rfl rfl (by kernel_rfl) ?_
        refine s_store rfl rfl rfl rfl rfl rfl rfl (fun w2 sw2 vw2 => ?_)
        refine s_assign rfl rfl rfl rfl ?_
        refine vOrd_nil ?_
        refine Wp.ret ⟨.inr rfl, fun lW => ⟨_, ⟨_, _, res_cell rfl rfl rfl rfl, res_tmp (P := Tryd.prog) rfl rfl, rfl⟩, _, rfl, ?_, lW⟩⟩
        clear lW
        have hN : isNum (45 :: t) = false := by unfold isNum; rw [hB, et]; rfl
        rw [numV_no hN, hN]
        exact ⟨_, rfl, big_zero _ _⟩
      · have hne : t ≠ [] := fun e => h18 (by rw [e]; rfl)
        refine s_move rfl rfl rfl rfl ?_
        obtain ⟨bb, rr, hbr⟩ := List.exists_cons_of_ne_nil hne
        have hb0 : t[0]? = some bb := by rw [hbr]; rfl
        have hhd : t.head? = some bb := by rw [hbr]; rfl
        refine s_move rfl rfl rfl rfl ?_
        refine s_move rfl rfl rfl rfl ?_
        refine b_byte rfl rfl rfl rfl rfl rfl (by omega) (hb0) ?_
        refine p_eql rfl rfl rfl rfl rfl (fun h23 => ?_) (fun h23 => ?_)
        · have hb48 : bb = 48 := UInt8.toNat_inj.1 (by have : (48 : UInt8).toNat = 48 := rfl; omega)
          refine s_move rfl rfl rfl rfl ?_
          refine s_move rfl rfl rfl rfl ?_
          refine b_ne rfl rfl rfl rfl rfl (fun h26 => ?_) (fun h26 => ?_)
          · refine s_pick rfl rfl rfl rfl rfl ?_
            refine s_pick rfl rfl rfl rfl rfl ?_
            refine vOrd_nil ?_
            refine Wp.condT rfl rfl ?_
            refine Wp.seq ?_
            refine Wp.region [0, 1, 2] (by kernel_rfl) (by kernel_rfl) ?_
            refine s_build rfl rfl rfl rfl rfl (by kernel_rfl) ?_
            refine s_store rfl rfl rfl rfl rfl rfl rfl (fun w7 sw7 vw7 => ?_)
            refine s_assign rfl rfl rfl rfl ?_
            refine vOrd_nil ?_
            refine Wp.ret ⟨.inr rfl, fun lW => ⟨_, ⟨_, _, res_cell rfl rfl rfl rfl, res_tmp (P := Tryd.prog) rfl rfl, rfl⟩, _, rfl, ?_, lW⟩⟩
            clear lW
            have hN : isNum (45 :: t) = false := by unfold isNum; rw [hB, hhd]; simp [hb48, h26]
            rw [numV_no hN, hN]
            exact ⟨_, rfl, big_zero _ _⟩
          · refine s_pick rfl rfl rfl rfl rfl ?_
            refine s_pick rfl rfl rfl rfl rfl ?_
            refine vOrd_nil ?_
            refine Wp.condF rfl rfl ?_
            refine Wp.skip ?_
            refine Wp.seq ?_
            refine Wp.region [0, 1, 2] (by kernel_rfl) (by kernel_rfl) ?_
            refine s_build rfl rfl rfl rfl rfl (by kernel_rfl) ?_
            refine s_alloc rfl rfl rfl rfl rfl (fun bk8 w8 kb8 lw8 => ?_)
            refine s_store rfl rfl rfl rfl rfl rfl rfl (fun w9 sw9 vw9 => ?_)
            refine vOrd_nil ?_
            refine Wp.seq ?_
            refine Wp.seq ?_
            refine Wp.region [0, 1] (by kernel_rfl) (by kernel_rfl) ?_
            refine s_move rfl rfl rfl rfl ?_
            refine s_assign rfl rfl rfl rfl ?_
            refine vOrd_nil ?_
            refine Wp.block ?_
            refine Wp.loop (fun k st w2 => ∃ (j b2 b5 : Nat) (sb : Bool) (na : Option Addr) (nl nc : Nat), st = St.of [(0, .v (.string ⟨⟨(45 :: t)⟩⟩)), (2, .p 2 b2 0), (4, .v (.int .i64 1)), (5, .p 5 b5 0), (6, .v (.int .i64 ((j + 1 : Nat) : Int)))] [(2, b2, [.bool false, .slice none 0 0]), (5, b5, [.bool sb, .slice na nl nc])] ∧ j ≤ t.length ∧ (t.take j).all isDig = true ∧ IsBig (j + 1) (numD (t.take j) 0) (.agg #[.bool sb, .slice na nl nc]) w2 ∧ k = t.length - j) ?_ ?_
            · exact ⟨_, _, (St.of_le' (env := [(0, .v _), (2, .p 2 _ 0), (4, .v _), (5, .p 5 _ 0), (6, .v _)]) (mem := [(2, _, [_, _]), (5, _, [_, _])]) ⟨rfl, rfl, rfl, rfl, rfl, trivial⟩ ⟨rfl, rfl, trivial⟩), 0, _, _, _, _, _, _, rfl, by omega, rfl, big_zero _ _, rfl⟩
            · rintro k st w10 ⟨j, b2, b5, sb, na, nl, nc, rfl, hj, hd, hz, rfl⟩
              refine Wp.seq ?_
              refine Wp.seq ?_
              refine Wp.region [0, 1, 2, 3] (by kernel_rfl) (by kernel_rfl) ?_
              refine s_move rfl rfl rfl rfl ?_
              refine s_move rfl rfl rfl rfl ?_
              refine b_len rfl rfl rfl rfl rfl ?_
              refine p_lss rfl rfl rfl rfl rfl (fun h35 => ?_) (fun h35 => ?_)
              · refine vOrd_nil ?_
                refine Wp.condT rfl rfl ?_
                refine Wp.skip ?_
                refine Wp.seq ?_
                refine Wp.block ?_
                refine Wp.seq ?_
                refine Wp.seq ?_
                obtain ⟨b, hb⟩ := get_some (l := t) (i := j) (by omega)
                have hbi : (45 :: t)[Int.toNat ((j + 1 : Nat) : Int)]? = some b := hb
                have hN1 := numD_lt (t.take j) 0 hd (by omega)
                have hN0 := numD_up (t.take j) 0 hd (by omega)
                refine Wp.region [0, 1, 2, 3, 4, 5, 6, 7, 8, 9] (by kernel_rfl) (by kernel_rfl) ?_
                refine s_move rfl rfl rfl rfl ?_
                refine s_move rfl rfl rfl rfl ?_
                refine b_byte rfl rfl rfl rfl rfl rfl (by omega) (hbi) ?_
                refine p_lss rfl rfl rfl rfl rfl (fun h41 => ?_) (fun h41 => ?_)
                · refine s_move rfl rfl rfl rfl ?_
                  refine s_skip rfl rfl rfl ?_
                  refine s_skip rfl rfl rfl ?_
                  refine s_skip rfl rfl rfl ?_
                  refine s_skip rfl rfl rfl ?_
                  refine s_pick rfl rfl rfl rfl rfl ?_
                  refine vOrd_nil ?_
                  refine Wp.condT rfl rfl ?_
                  refine Wp.seq ?_
                  refine Wp.region [0, 1, 2] (by kernel_rfl) (by kernel_rfl) ?_
                  refine s_build rfl rfl rfl rfl rfl (by kernel_rfl) ?_
                  refine s_store rfl rfl rfl rfl rfl rfl rfl (fun w11 sw11 vw11 => ?_)
                  refine s_assign rfl rfl rfl rfl ?_
                  refine vOrd_nil ?_
                  refine Wp.ret ⟨.inr rfl, fun lW => ⟨_, ⟨_, _, res_cell rfl rfl rfl rfl, res_tmp (P := Tryd.prog) rfl rfl, rfl⟩, _, rfl, ?_, lW⟩⟩
                  clear lW
                  have hbn : isDig b = false := by simp [isDig]; omega
                  have hN : isNum (45 :: t) = false := by unfold isNum; rw [hB, all_not hb hbn]; rfl
                  rw [numV_no hN, hN]
                  exact ⟨_, rfl, big_zero _ _⟩
                · refine s_move rfl rfl rfl rfl ?_
                  refine s_move rfl rfl rfl rfl ?_
                  refine s_move rfl rfl rfl rfl ?_
                  refine b_byte rfl rfl rfl rfl rfl rfl (by omega) (hbi) ?_
                  refine p_gtr rfl rfl rfl rfl rfl (fun h46 => ?_) (fun h46 => ?_)
                  · refine s_pick rfl rfl rfl rfl rfl ?_
                    refine vOrd_nil ?_
                    refine Wp.condT rfl rfl ?_
                    refine Wp.seq ?_
                    refine Wp.region [0, 1, 2] (by kernel_rfl) (by kernel_rfl) ?_
                    refine s_build rfl rfl rfl rfl rfl (by kernel_rfl) ?_
                    refine s_store rfl rfl rfl rfl rfl rfl rfl (fun w12 sw12 vw12 => ?_)
                    refine s_assign rfl rfl rfl rfl ?_
                    refine vOrd_nil ?_
                    refine Wp.ret ⟨.inr rfl, fun lW => ⟨_, ⟨_, _, res_cell rfl rfl rfl rfl, res_tmp (P := Tryd.prog) rfl rfl, rfl⟩, _, rfl, ?_, lW⟩⟩
                    clear lW
                    have hbn : isDig b = false := by simp [isDig]; omega
                    have hN : isNum (45 :: t) = false := by unfold isNum; rw [hB, all_not hb hbn]; rfl
                    rw [numV_no hN, hN]
                    exact ⟨_, rfl, big_zero _ _⟩
                  · refine s_pick rfl rfl rfl rfl rfl ?_
                    refine vOrd_nil ?_
                    refine Wp.condF rfl rfl ?_
                    refine Wp.skip ?_
                    refine (Wp.drawn (by kernel_rfl) (by kernel_rfl) [0, 3, 4, 5, 6, 7, 1, 2, 8, 9, 10] [250, 23, 15, 31, 63, 127, 0, 0, 0, 0, 0] (by kernel_rfl) (by kernel_rfl) (fun | 1 => IsBig 5 10 | 2 => IsBig (j + 1 + 5) (numD (t.take j) 0 * 10) | 8 => IsBig 5 (b.toNat - 48) | 9 => IsBig (max (j + 1 + 5) 5 + 1) (numD (t.take j) 0 * 10 + (b.toNat - 48)) | _ => fun _ _ => True) (fun _ _ => ?_))
                    refine s_load rfl rfl rfl rfl rfl rfl rfl ?_
                    refine s_move rfl rfl rfl rfl ?_
                    refine s_move rfl rfl rfl rfl ?_
                    refine b_byte rfl rfl rfl rfl rfl rfl (by omega) (hbi) ?_
                    refine a_sub (0) 255 (by decide) rfl rfl rfl rfl rfl (by omega) (by omega) ?_
                    refine a_conv (-9223372036854775808) 9223372036854775807 (by decide) rfl rfl rfl rfl rfl rfl (by omega) (by omega) ?_
                    refine s_callD rfl rfl rfl (by kernel_rfl) rfl (fun wc lc => c_rint 10 (by decide) (by decide) wc) ?_
                    rintro v w13 u13 h10 lw13 mw13
                    refine s_callD rfl rfl rfl (by kernel_rfl) rfl (fun wc lc => c_mul (hz.keeps (by repeat (first | exact Keeps.refl _ | refine Keeps.trans ?_ (Keeps.later (by assumption)) | refine Keeps.trans ?_ (Keeps.stored (by assumption) (by assumption) rfl) | refine Keeps.trans ?_ (Keeps.fresh (by assumption) (by assumption) (by assumption))))) (h10.keeps (by repeat (first | exact Keeps.refl _ | refine Keeps.trans ?_ (Keeps.later (by assumption)) | refine Keeps.trans ?_ (Keeps.stored (by assumption) (by assumption) rfl) | refine Keeps.trans ?_ (Keeps.fresh (by assumption) (by assumption) (by assumption))))) (by omega) (by omega)) ?_
                    rintro v w14 u14 hm lw14 mw14
                    refine s_callD rfl rfl rfl (by kernel_rfl) rfl (fun wc lc => c_rint (b.toNat - 48) (by omega) (by omega) wc) ?_
                    rintro v w15 u15 hdd lw15 mw15
                    refine s_callD rfl rfl rfl (by kernel_rfl) rfl (fun wc lc => c_add (hm.keeps (by repeat (first | exact Keeps.refl _ | refine Keeps.trans ?_ (Keeps.later (by assumption)) | refine Keeps.trans ?_ (Keeps.stored (by assumption) (by assumption) rfl) | refine Keeps.trans ?_ (Keeps.fresh (by assumption) (by assumption) (by assumption))))) (hdd.keeps (by repeat (first | exact Keeps.refl _ | refine Keeps.trans ?_ (Keeps.later (by assumption)) | refine Keeps.trans ?_ (Keeps.stored (by assumption) (by assumption) rfl) | refine Keeps.trans ?_ (Keeps.fresh (by assumption) (by assumption) (by assumption))))) (by omega) (by omega)) ?_
                    rintro v w16 u16 hn1 lw16 mw16
                    rw [← numD_snoc, ← take_succ_get hb] at hn1
                    have hd1 := all_take hd hb (isDig_iff.2 (by omega))
                    have hlt := numD_lt (t.take (j + 1)) 0 hd1 (by omega)
                    have hge := numD_up (t.take (j + 1)) 0 hd1 (by omega)
                    have hp1 := ten_pw (t.take (j + 1)).length
                    have hp2 := pw_mono (show (t.take (j + 1)).length ≤ j + 1 + 1 by rw [List.length_take]; omega)
                    have hp3 := pw_pos (j + 1 + 1)
                    have hn2 := hn1.tightK (j + 1 + 1) (by omega) (by omega)
                    clear hn1
                    obtain ⟨na2, nl2, nc2, rfl, nb⟩ := id hn2
                    clear nb
                    refine s_store rfl rfl rfl rfl rfl rfl rfl (fun w17 sw17 vw17 => ?_)
                    refine vOrd_nil ?_
                    refine Wp.region [0, 1, 2] (by kernel_rfl) (by kernel_rfl) ?_
                    refine s_move rfl rfl rfl rfl ?_
                    refine a_add (-9223372036854775808) 9223372036854775807 (by decide) rfl rfl rfl rfl rfl (by omega) (by omega) ?_
                    refine s_assign rfl rfl rfl rfl ?_
                    refine vOrd_nil ?_
                    exact ⟨_, _, by omega, (St.of_le' (env := [(0, .v _), (2, .p 2 _ 0), (4, .v _), (5, .p 5 _ 0), (6, .v _)]) (mem := [(2, _, [_, _]), (5, _, [_, _])]) ⟨rfl, rfl, rfl, rfl, rfl, trivial⟩ ⟨rfl, rfl, trivial⟩), j + 1, _, _, _, _, _, _, rfl, by omega, all_take hd hb (isDig_iff.2 (by omega)), hn2.keeps (by repeat (first | exact Keeps.refl _ | refine Keeps.trans ?_ (Keeps.later (by assumption)) | refine Keeps.trans ?_ (Keeps.stored (by assumption) (by assumption) rfl) | refine Keeps.trans ?_ (Keeps.fresh (by assumption) (by assumption) (by assumption)))), rfl⟩
              · refine vOrd_nil ?_
                refine Wp.condF rfl rfl ?_
                refine Wp.exit ?_
                have ej : j = t.length := by omega
                subst ej
                rw [List.take_length] at hd hz
                refine Wp.seq ?_
                refine Wp.seq ?_
                refine Wp.region [0, 1] (by kernel_rfl) (by kernel_rfl) ?_
                refine s_move rfl rfl rfl rfl ?_
                refine t_eql rfl rfl rfl rfl rfl (by omega) ?_
                refine vOrd_nil ?_
                refine Wp.condT rfl rfl ?_
                refine Wp.seq ?_
                refine Wp.region [0, 1, 2, 3] (by kernel_rfl) (by kernel_rfl) ?_
                refine s_load rfl rfl rfl rfl rfl rfl rfl ?_
                refine s_callT rfl rfl rfl (by kernel_rfl) rfl (c_bneg (hz.keeps (by repeat (first | exact Keeps.refl _ | refine Keeps.trans ?_ (Keeps.later (by assumption)) | refine Keeps.trans ?_ (Keeps.stored (by assumption) (by assumption) rfl) | refine Keeps.trans ?_ (Keeps.fresh (by assumption) (by assumption) (by assumption)))))) ?_
                rintro v w18 hr lw18
                obtain ⟨ra, rl, rc, rfl, rb⟩ := id hr
                clear rb
                refine s_store rfl rfl rfl rfl rfl rfl rfl (fun w19 sw19 vw19 => ?_)
                refine s_assign rfl rfl rfl rfl ?_
                refine vOrd_nil ?_
                refine Wp.ret ⟨.inr rfl, fun lW => ⟨_, ⟨_, _, res_cell rfl rfl rfl rfl, res_tmp (P := Tryd.prog) rfl rfl, rfl⟩, _, rfl, ?_, lW⟩⟩
                clear lW
                have hN : isNum (45 :: t) = true := by unfold isNum; rw [hB, hd, hhd]; simp [hb48, h26, hne]
                rw [numV_yes hN, hN]
                refine ⟨_, rfl, ?_⟩
                refine IsBig.upto (IsBig.eq (hr.keeps (by repeat (first | exact Keeps.refl _ | refine Keeps.trans ?_ (Keeps.later (by assumption)) | refine Keeps.trans ?_ (Keeps.stored (by assumption) (by assumption) rfl) | refine Keeps.trans ?_ (Keeps.fresh (by assumption) (by assumption) (by assumption))))) ?_) (by omega)
                unfold numOf; rw [hB, hM]; rfl
        · have hb48 : bb ≠ 48 := fun e => h23 (by subst e; rfl)
          refine s_move rfl rfl rfl rfl ?_
          refine s_skip rfl rfl rfl ?_
          refine s_skip rfl rfl rfl ?_
          refine s_pick rfl rfl rfl rfl rfl ?_
          refine s_pick rfl rfl rfl rfl rfl ?_
          refine vOrd_nil ?_
          refine Wp.condF rfl rfl ?_
          refine Wp.skip ?_
          refine Wp.seq ?_
          refine Wp.region [0, 1, 2] (by kernel_rfl) (by kernel_rfl) ?_
          refine s_build rfl rfl rfl rfl rfl (by kernel_rfl) ?_
          refine s_alloc rfl rfl rfl rfl rfl (fun bk20 w20 kb20 lw20 => ?_)
          refine s_store rfl rfl rfl rfl rfl rfl rfl (fun w21 sw21 vw21 => ?_)
          refine vOrd_nil ?_
          refine Wp.seq ?_
          refine Wp.seq ?_
          refine Wp.region [0, 1] (by kernel_rfl) (by kernel_rfl) ?_
          refine s_move rfl rfl rfl rfl ?_
          refine s_assign rfl rfl rfl rfl ?_
          refine vOrd_nil ?_
          refine Wp.block ?_
          refine Wp.loop (fun k st w2 => ∃ (j b2 b5 : Nat) (sb : Bool) (na : Option Addr) (nl nc : Nat), st = St.of [(0, .v (.string ⟨⟨(45 :: t)⟩⟩)), (2, .p 2 b2 0), (4, .v (.int .i64 1)), (5, .p 5 b5 0), (6, .v (.int .i64 ((j + 1 : Nat) : Int)))] [(2, b2, [.bool false, .slice none 0 0]), (5, b5, [.bool sb, .slice na nl nc])] ∧ j ≤ t.length ∧ (t.take j).all isDig = true ∧ IsBig (j + 1) (numD (t.take j) 0) (.agg #[.bool sb, .slice na nl nc]) w2 ∧ k = t.length - j) ?_ ?_
          · exact ⟨_, _, (St.of_le' (env := [(0, .v _), (2, .p 2 _ 0), (4, .v _), (5, .p 5 _ 0), (6, .v _)]) (mem := [(2, _, [_, _]), (5, _, [_, _])]) ⟨rfl, rfl, rfl, rfl, rfl, trivial⟩ ⟨rfl, rfl, trivial⟩), 0, _, _, _, _, _, _, rfl, by omega, rfl, big_zero _ _, rfl⟩
          · rintro k st w22 ⟨j, b2, b5, sb, na, nl, nc, rfl, hj, hd, hz, rfl⟩
            refine Wp.seq ?_
            refine Wp.seq ?_
            refine Wp.region [0, 1, 2, 3] (by kernel_rfl) (by kernel_rfl) ?_
            refine s_move rfl rfl rfl rfl ?_
            refine s_move rfl rfl rfl rfl ?_
            refine b_len rfl rfl rfl rfl rfl ?_
            refine p_lss rfl rfl rfl rfl rfl (fun h35 => ?_) (fun h35 => ?_)
            · refine vOrd_nil ?_
              refine Wp.condT rfl rfl ?_
              refine Wp.skip ?_
              refine Wp.seq ?_
              refine Wp.block ?_
              refine Wp.seq ?_
              refine Wp.seq ?_
              obtain ⟨b, hb⟩ := get_some (l := t) (i := j) (by omega)
              have hbi : (45 :: t)[Int.toNat ((j + 1 : Nat) : Int)]? = some b := hb
              have hN1 := numD_lt (t.take j) 0 hd (by omega)
              have hN0 := numD_up (t.take j) 0 hd (by omega)
              refine Wp.region [0, 1, 2, 3, 4, 5, 6, 7, 8, 9] (by kernel_rfl) (by kernel_rfl) ?_
              refine s_move rfl rfl rfl rfl ?_
              refine s_move rfl rfl rfl rfl ?_
              refine b_byte rfl rfl rfl rfl rfl rfl (by omega) (hbi) ?_
              refine p_lss rfl rfl rfl rfl rfl (fun h41 => ?_) (fun h41 => ?_)
              · refine s_move rfl rfl rfl rfl ?_
                refine s_skip rfl rfl rfl ?_
                refine s_skip rfl rfl rfl ?_
                refine s_skip rfl rfl rfl ?_
                refine s_skip rfl rfl rfl ?_
                refine s_pick rfl rfl rfl rfl rfl ?_
                refine vOrd_nil ?_
                refine Wp.condT rfl rfl ?_
                refine Wp.seq ?_
                refine Wp.region [0, 1, 2] (by kernel_rfl) (by kernel_rfl) ?_
                refine s_build rfl rfl rfl rfl rfl (by kernel_rfl) ?_
                refine s_store rfl rfl rfl rfl rfl rfl rfl (fun w23 sw23 vw23 => ?_)
                refine s_assign rfl rfl rfl rfl ?_
                refine vOrd_nil ?_
                refine Wp.ret ⟨.inr rfl, fun lW => ⟨_, ⟨_, _, res_cell rfl rfl rfl rfl, res_tmp (P := Tryd.prog) rfl rfl, rfl⟩, _, rfl, ?_, lW⟩⟩
                clear lW
                have hbn : isDig b = false := by simp [isDig]; omega
                have hN : isNum (45 :: t) = false := by unfold isNum; rw [hB, all_not hb hbn]; rfl
                rw [numV_no hN, hN]
                exact ⟨_, rfl, big_zero _ _⟩
              · refine s_move rfl rfl rfl rfl ?_
                refine s_move rfl rfl rfl rfl ?_
                refine s_move rfl rfl rfl rfl ?_
                refine b_byte rfl rfl rfl rfl rfl rfl (by omega) (hbi) ?_
                refine p_gtr rfl rfl rfl rfl rfl (fun h46 => ?_) (fun h46 => ?_)
                · refine s_pick rfl rfl rfl rfl rfl ?_
                  refine vOrd_nil ?_
                  refine Wp.condT rfl rfl ?_
                  refine Wp.seq ?_
                  refine Wp.region [0, 1, 2] (by kernel_rfl) (by kernel_rfl) ?_
                  refine s_build rfl rfl rfl rfl rfl (by kernel_rfl) ?_
                  refine s_store rfl rfl rfl rfl rfl rfl rfl (fun w24 sw24 vw24 => ?_)
                  refine s_assign rfl rfl rfl rfl ?_
                  refine vOrd_nil ?_
                  refine Wp.ret ⟨.inr rfl, fun lW => ⟨_, ⟨_, _, res_cell rfl rfl rfl rfl, res_tmp (P := Tryd.prog) rfl rfl, rfl⟩, _, rfl, ?_, lW⟩⟩
                  clear lW
                  have hbn : isDig b = false := by simp [isDig]; omega
                  have hN : isNum (45 :: t) = false := by unfold isNum; rw [hB, all_not hb hbn]; rfl
                  rw [numV_no hN, hN]
                  exact ⟨_, rfl, big_zero _ _⟩
                · refine s_pick rfl rfl rfl rfl rfl ?_
                  refine vOrd_nil ?_
                  refine Wp.condF rfl rfl ?_
                  refine Wp.skip ?_
                  refine (Wp.drawn (by kernel_rfl) (by kernel_rfl) [0, 3, 4, 5, 6, 7, 1, 2, 8, 9, 10] [250, 23, 15, 31, 63, 127, 0, 0, 0, 0, 0] (by kernel_rfl) (by kernel_rfl) (fun | 1 => IsBig 5 10 | 2 => IsBig (j + 1 + 5) (numD (t.take j) 0 * 10) | 8 => IsBig 5 (b.toNat - 48) | 9 => IsBig (max (j + 1 + 5) 5 + 1) (numD (t.take j) 0 * 10 + (b.toNat - 48)) | _ => fun _ _ => True) (fun _ _ => ?_))
                  refine s_load rfl rfl rfl rfl rfl rfl rfl ?_
                  refine s_move rfl rfl rfl rfl ?_
                  refine s_move rfl rfl rfl rfl ?_
                  refine b_byte rfl rfl rfl rfl rfl rfl (by omega) (hbi) ?_
                  refine a_sub (0) 255 (by decide) rfl rfl rfl rfl rfl (by omega) (by omega) ?_
                  refine a_conv (-9223372036854775808) 9223372036854775807 (by decide) rfl rfl rfl rfl rfl rfl (by omega) (by omega) ?_
                  refine s_callD rfl rfl rfl (by kernel_rfl) rfl (fun wc lc => c_rint 10 (by decide) (by decide) wc) ?_
                  rintro v w25 u25 h10 lw25 mw25
                  refine s_callD rfl rfl rfl (by kernel_rfl) rfl (fun wc lc => c_mul (hz.keeps (by repeat (first | exact Keeps.refl _ | refine Keeps.trans ?_ (Keeps.later (by assumption)) | refine Keeps.trans ?_ (Keeps.stored (by assumption) (by assumption) rfl) | refine Keeps.trans ?_ (Keeps.fresh (by assumption) (by assumption) (by assumption))))) (h10.keeps (by repeat (first | exact Keeps.refl _ | refine Keeps.trans ?_ (Keeps.later (by assumption)) | refine Keeps.trans ?_ (Keeps.stored (by assumption) (by assumption) rfl) | refine Keeps.trans ?_ (Keeps.fresh (by assumption) (by assumption) (by assumption))))) (by omega) (by omega)) ?_
                  rintro v w26 u26 hm lw26 mw26
                  refine s_callD rfl rfl rfl (by kernel_rfl) rfl (fun wc lc => c_rint (b.toNat - 48) (by omega) (by omega) wc) ?_
                  rintro v w27 u27 hdd lw27 mw27
                  refine s_callD rfl rfl rfl (by kernel_rfl) rfl (fun wc lc => c_add (hm.keeps (by repeat (first | exact Keeps.refl _ | refine Keeps.trans ?_ (Keeps.later (by assumption)) | refine Keeps.trans ?_ (Keeps.stored (by assumption) (by assumption) rfl) | refine Keeps.trans ?_ (Keeps.fresh (by assumption) (by assumption) (by assumption))))) (hdd.keeps (by repeat (first | exact Keeps.refl _ | refine Keeps.trans ?_ (Keeps.later (by assumption)) | refine Keeps.trans ?_ (Keeps.stored (by assumption) (by assumption) rfl) | refine Keeps.trans ?_ (Keeps.fresh (by assumption) (by assumption) (by assumption))))) (by omega) (by omega)) ?_
                  rintro v w28 u28 hn1 lw28 mw28
                  rw [← numD_snoc, ← take_succ_get hb] at hn1
                  have hd1 := all_take hd hb (isDig_iff.2 (by omega))
                  have hlt := numD_lt (t.take (j + 1)) 0 hd1 (by omega)
                  have hge := numD_up (t.take (j + 1)) 0 hd1 (by omega)
                  have hp1 := ten_pw (t.take (j + 1)).length
                  have hp2 := pw_mono (show (t.take (j + 1)).length ≤ j + 1 + 1 by rw [List.length_take]; omega)
                  have hp3 := pw_pos (j + 1 + 1)
                  have hn2 := hn1.tightK (j + 1 + 1) (by omega) (by omega)
                  clear hn1
                  obtain ⟨na2, nl2, nc2, rfl, nb⟩ := id hn2
                  clear nb
                  refine s_store rfl rfl rfl rfl rfl rfl rfl (fun w29 sw29 vw29 => ?_)
                  refine vOrd_nil ?_
                  refine Wp.region [0, 1, 2] (by kernel_rfl) (by kernel_rfl) ?_
                  refine s_move rfl rfl rfl rfl ?_
                  refine a_add (-9223372036854775808) 9223372036854775807 (by decide) rfl rfl rfl rfl rfl (by omega) (by omega) ?_
                  refine s_assign rfl rfl rfl rfl ?_
                  refine vOrd_nil ?_
                  exact ⟨_, _, by omega, (St.of_le' (env := [(0, .v _), (2, .p 2 _ 0), (4, .v _), (5, .p 5 _ 0), (6, .v _)]) (mem := [(2, _, [_, _]), (5, _, [_, _])]) ⟨rfl, rfl, rfl, rfl, rfl, trivial⟩ ⟨rfl, rfl, trivial⟩), j + 1, _, _, _, _, _, _, rfl, by omega, all_take hd hb (isDig_iff.2 (by omega)), hn2.keeps (by repeat (first | exact Keeps.refl _ | refine Keeps.trans ?_ (Keeps.later (by assumption)) | refine Keeps.trans ?_ (Keeps.stored (by assumption) (by assumption) rfl) | refine Keeps.trans ?_ (Keeps.fresh (by assumption) (by assumption) (by assumption)))), rfl⟩
            · refine vOrd_nil ?_
              refine Wp.condF rfl rfl ?_
              refine Wp.exit ?_
              have ej : j = t.length := by omega
              subst ej
              rw [List.take_length] at hd hz
              refine Wp.seq ?_
              refine Wp.seq ?_
              refine Wp.region [0, 1] (by kernel_rfl) (by kernel_rfl) ?_
              refine s_move rfl rfl rfl rfl ?_
              refine t_eql rfl rfl rfl rfl rfl (by omega) ?_
              refine vOrd_nil ?_
              refine Wp.condT rfl rfl ?_
              refine Wp.seq ?_
              refine Wp.region [0, 1, 2, 3] (by kernel_rfl) (by kernel_rfl) ?_
              refine s_load rfl rfl rfl rfl rfl rfl rfl ?_
              refine s_callT rfl rfl rfl (by kernel_rfl) rfl (c_bneg (hz.keeps (by repeat (first | exact Keeps.refl _ | refine Keeps.trans ?_ (Keeps.later (by assumption)) | refine Keeps.trans ?_ (Keeps.stored (by assumption) (by assumption) rfl) | refine Keeps.trans ?_ (Keeps.fresh (by assumption) (by assumption) (by assumption)))))) ?_
              rintro v w30 hr lw30
              obtain ⟨ra, rl, rc, rfl, rb⟩ := id hr
              clear rb
              refine s_store rfl rfl rfl rfl rfl rfl rfl (fun w31 sw31 vw31 => ?_)
              refine s_assign rfl rfl rfl rfl ?_
              refine vOrd_nil ?_
              refine Wp.ret ⟨.inr rfl, fun lW => ⟨_, ⟨_, _, res_cell rfl rfl rfl rfl, res_tmp (P := Tryd.prog) rfl rfl, rfl⟩, _, rfl, ?_, lW⟩⟩
              clear lW
              have hN : isNum (45 :: t) = true := by unfold isNum; rw [hB, hd, hhd]; simp [hb48, hne]
              rw [numV_yes hN, hN]
              refine ⟨_, rfl, ?_⟩
              refine IsBig.upto (IsBig.eq (hr.keeps (by repeat (first | exact Keeps.refl _ | refine Keeps.trans ?_ (Keeps.later (by assumption)) | refine Keeps.trans ?_ (Keeps.stored (by assumption) (by assumption) rfl) | refine Keeps.trans ?_ (Keeps.fresh (by assumption) (by assumption) (by assumption))))) ?_) (by omega)
              unfold numOf; rw [hB, hM]; rfl
    · have e45 : b0 ≠ 45 := fun e => h13 (by subst e; rfl)
      obtain ⟨t, ht⟩ : ∃ t, t = b0 :: r0 := ⟨_, rfl⟩
      rw [← ht]
      rw [← ht] at hl h9
      have hB : bodyL t = t := by rw [ht]; simp [bodyL, e45]
      have hM : minusL t = false := by rw [ht]; simp [minusL, e45]
      have hL : t.length = r0.length + 1 := by rw [ht]; rfl
      have hne : t ≠ [] := by rw [ht]; simp
      refine s_pick rfl rfl rfl rfl rfl ?_
      refine vOrd_nil ?_
      refine Wp.condF rfl rfl ?_
      refine Wp.skip ?_
      refine Wp.seq ?_
      refine Wp.seq ?_
      refine Wp.region [0, 1, 2, 3, 4, 5, 6, 7, 8, 9, 10, 11, 12, 13] (by kernel_rfl) (by kernel_rfl) ?_
      refine s_move rfl rfl rfl rfl ?_
      refine b_len rfl rfl rfl rfl rfl ?_
      refine s_move rfl rfl rfl rfl ?_
      refine f_eql rfl rfl rfl rfl rfl (by omega) ?_
      refine s_move rfl rfl rfl rfl ?_
      obtain ⟨bb, rr, hbr⟩ := List.exists_cons_of_ne_nil hne
      have hb0 : t[0]? = some bb := by rw [hbr]; rfl
      have hhd : t.head? = some bb := by rw [hbr]; rfl
      refine s_move rfl rfl rfl rfl ?_
      refine s_move rfl rfl rfl rfl ?_
      refine b_byte rfl rfl rfl rfl rfl rfl (by omega) (hb0) ?_
      refine p_eql rfl rfl rfl rfl rfl (fun h23 => ?_) (fun h23 => ?_)
      · have hb48 : bb = 48 := UInt8.toNat_inj.1 (by have : (48 : UInt8).toNat = 48 := rfl; omega)
        refine s_move rfl rfl rfl rfl ?_
        refine s_move rfl rfl rfl rfl ?_
        refine b_ne rfl rfl rfl rfl rfl (fun h26 => ?_) (fun h26 => ?_)
        · refine s_pick rfl rfl rfl rfl rfl ?_
          refine s_pick rfl rfl rfl rfl rfl ?_
          refine vOrd_nil ?_
          refine Wp.condT rfl rfl ?_
          refine Wp.seq ?_
          refine Wp.region [0, 1, 2] (by kernel_rfl) (by kernel_rfl) ?_
          refine s_build rfl rfl rfl rfl rfl (by kernel_rfl) ?_
          refine s_store rfl rfl rfl rfl rfl rfl rfl (fun w36 sw36 vw36 => ?_)
          refine s_assign rfl rfl rfl rfl ?_
          refine vOrd_nil ?_
          refine Wp.ret ⟨.inr rfl, fun lW => ⟨_, ⟨_, _, res_cell rfl rfl rfl rfl, res_tmp (P := Tryd.prog) rfl rfl, rfl⟩, _, rfl, ?_, lW⟩⟩
          clear lW
          have hN : isNum t = false := by unfold isNum; rw [hB, hhd]; simp [hb48, h26]
          rw [numV_no hN, hN]
          exact ⟨_, rfl, big_zero _ _⟩
        · refine s_pick rfl rfl rfl rfl rfl ?_
          refine s_pick rfl rfl rfl rfl rfl ?_
          refine vOrd_nil ?_
          refine Wp.condF rfl rfl ?_
          refine Wp.skip ?_
          refine Wp.seq ?_
          refine Wp.region [0, 1, 2] (by kernel_rfl) (by kernel_rfl) ?_
          refine s_build rfl rfl rfl rfl rfl (by kernel_rfl) ?_
          refine s_alloc rfl rfl rfl rfl rfl (fun bk37 w37 kb37 lw37 => ?_)
          refine s_store rfl rfl rfl rfl rfl rfl rfl (fun w38 sw38 vw38 => ?_)
          refine vOrd_nil ?_
          refine Wp.seq ?_
          refine Wp.seq ?_
          refine Wp.region [0, 1] (by kernel_rfl) (by kernel_rfl) ?_
          refine s_move rfl rfl rfl rfl ?_
          refine s_assign rfl rfl rfl rfl ?_
          refine vOrd_nil ?_
          refine Wp.block ?_
          refine Wp.loop (fun k st w2 => ∃ (j b2 b5 : Nat) (sb : Bool) (na : Option Addr) (nl nc : Nat), st = St.of [(0, .v (.string ⟨⟨t⟩⟩)), (2, .p 2 b2 0), (4, .v (.int .i64 0)), (5, .p 5 b5 0), (6, .v (.int .i64 ((j + 0 : Nat) : Int)))] [(2, b2, [.bool false, .slice none 0 0]), (5, b5, [.bool sb, .slice na nl nc])] ∧ j ≤ t.length ∧ (t.take j).all isDig = true ∧ IsBig (j + 1) (numD (t.take j) 0) (.agg #[.bool sb, .slice na nl nc]) w2 ∧ k = t.length - j) ?_ ?_
          · exact ⟨_, _, (St.of_le' (env := [(0, .v _), (2, .p 2 _ 0), (4, .v _), (5, .p 5 _ 0), (6, .v _)]) (mem := [(2, _, [_, _]), (5, _, [_, _])]) ⟨rfl, rfl, rfl, rfl, rfl, trivial⟩ ⟨rfl, rfl, trivial⟩), 0, _, _, _, _, _, _, rfl, by omega, rfl, big_zero _ _, rfl⟩
          · rintro k st w39 ⟨j, b2, b5, sb, na, nl, nc, rfl, hj, hd, hz, rfl⟩
            refine Wp.seq ?_
            refine Wp.seq ?_
            refine Wp.region [0, 1, 2, 3] (by kernel_rfl) (by kernel_rfl) ?_
            refine s_move rfl rfl rfl rfl ?_
            refine s_move rfl rfl rfl rfl ?_
            refine b_len rfl rfl rfl rfl rfl ?_
            refine p_lss rfl rfl rfl rfl rfl (fun h35 => ?_) (fun h35 => ?_)
            · refine vOrd_nil ?_
              refine Wp.condT rfl rfl ?_
              refine Wp.skip ?_
              refine Wp.seq ?_
              refine Wp.block ?_
              refine Wp.seq ?_
              refine Wp.seq ?_
              obtain ⟨b, hb⟩ := get_some (l := t) (i := j) (by omega)
              have hbi : t[Int.toNat ((j + 0 : Nat) : Int)]? = some b := hb
              have hN1 := numD_lt (t.take j) 0 hd (by omega)
              have hN0 := numD_up (t.take j) 0 hd (by omega)
              refine Wp.region [0, 1, 2, 3, 4, 5, 6, 7, 8, 9] (by kernel_rfl) (by kernel_rfl) ?_
              refine s_move rfl rfl rfl rfl ?_
              refine s_move rfl rfl rfl rfl ?_
              refine b_byte rfl rfl rfl rfl rfl rfl (by omega) (hbi) ?_
              refine p_lss rfl rfl rfl rfl rfl (fun h41 => ?_) (fun h41 => ?_)
              · refine s_move rfl rfl rfl rfl ?_
                refine s_skip rfl rfl rfl ?_
                refine s_skip rfl rfl rfl ?_
                refine s_skip rfl rfl rfl ?_
                refine s_skip rfl rfl rfl ?_
                refine s_pick rfl rfl rfl rfl rfl ?_
                refine vOrd_nil ?_
                refine Wp.condT rfl rfl ?_
                refine Wp.seq ?_
                refine Wp.region [0, 1, 2] (by kernel_rfl) (by kernel_rfl) ?_
                refine s_build rfl rfl rfl rfl rfl (by kernel_rfl) ?_
                refine s_store rfl rfl rfl rfl rfl rfl rfl (fun w40 sw40 vw40 => ?_)
                refine s_assign rfl rfl rfl rfl ?_
                refine vOrd_nil ?_
                refine Wp.ret ⟨.inr rfl, fun lW => ⟨_, ⟨_, _, res_cell rfl rfl rfl rfl, res_tmp (P := Tryd.prog) rfl rfl, rfl⟩, _, rfl, ?_, lW⟩⟩
                clear lW
                have hbn : isDig b = false := by simp [isDig]; omega
                have hN : isNum t = false := by unfold isNum; rw [hB, all_not hb hbn]; rfl
                rw [numV_no hN, hN]
                exact ⟨_, rfl, big_zero _ _⟩
              · refine s_move rfl rfl rfl rfl ?_
                refine s_move rfl rfl rfl rfl ?_
                refine s_move rfl rfl rfl rfl ?_
                refine b_byte rfl rfl rfl rfl rfl rfl (by omega) (hbi) ?_
                refine p_gtr rfl rfl rfl rfl rfl (fun h46 => ?_) (fun h46 => ?_)
                · refine s_pick rfl rfl rfl rfl rfl ?_
                  refine vOrd_nil ?_
                  refine Wp.condT rfl rfl ?_
                  refine Wp.seq ?_
                  refine Wp.region [0, 1, 2] (by kernel_rfl) (by kernel_rfl) ?_
                  refine s_build rfl rfl rfl rfl rfl (by kernel_rfl) ?_
                  refine s_store rfl rfl rfl rfl rfl rfl rfl (fun w41 sw41 vw41 => ?_)
                  refine s_assign rfl rfl rfl rfl ?_
                  refine vOrd_nil ?_
                  refine Wp.ret ⟨.inr rfl, fun lW => ⟨_, ⟨_, _, res_cell rfl rfl rfl rfl, res_tmp (P := Tryd.prog) rfl rfl, rfl⟩, _, rfl, ?_, lW⟩⟩
                  clear lW
                  have hbn : isDig b = false := by simp [isDig]; omega
                  have hN : isNum t = false := by unfold isNum; rw [hB, all_not hb hbn]; rfl
                  rw [numV_no hN, hN]
                  exact ⟨_, rfl, big_zero _ _⟩
                · refine s_pick rfl rfl rfl rfl rfl ?_
                  refine vOrd_nil ?_
                  refine Wp.condF rfl rfl ?_
                  refine Wp.skip ?_
                  refine (Wp.drawn (by kernel_rfl) (by kernel_rfl) [0, 3, 4, 5, 6, 7, 1, 2, 8, 9, 10] [250, 23, 15, 31, 63, 127, 0, 0, 0, 0, 0] (by kernel_rfl) (by kernel_rfl) (fun | 1 => IsBig 5 10 | 2 => IsBig (j + 1 + 5) (numD (t.take j) 0 * 10) | 8 => IsBig 5 (b.toNat - 48) | 9 => IsBig (max (j + 1 + 5) 5 + 1) (numD (t.take j) 0 * 10 + (b.toNat - 48)) | _ => fun _ _ => True) (fun _ _ => ?_))
                  refine s_load rfl rfl rfl rfl rfl rfl rfl ?_
                  refine s_move rfl rfl rfl rfl ?_
                  refine s_move rfl rfl rfl rfl ?_
                  refine b_byte rfl rfl rfl rfl rfl rfl (by omega) (hbi) ?_
                  refine a_sub (0) 255 (by decide) rfl rfl rfl rfl rfl (by omega) (by omega) ?_
                  refine a_conv (-9223372036854775808) 9223372036854775807 (by decide) rfl rfl rfl rfl rfl rfl (by omega) (by omega) ?_
                  refine s_callD rfl rfl rfl (by kernel_rfl) rfl (fun wc lc => c_rint 10 (by decide) (by decide) wc) ?_
                  rintro v w42 u42 h10 lw42 mw42
                  refine s_callD rfl rfl rfl (by kernel_rfl) rfl (fun wc lc => c_mul (hz.keeps (by repeat (first | exact Keeps.refl _ | refine Keeps.trans ?_ (Keeps.later (by assumption)) | refine Keeps.trans ?_ (Keeps.stored (by assumption) (by assumption) rfl) | refine Keeps.trans ?_ (Keeps.fresh (by assumption) (by assumption) (by assumption))))) (h10.keeps (by repeat (first | exact Keeps.refl _ | refine Keeps.trans ?_ (Keeps.later (by assumption)) | refine Keeps.trans ?_ (Keeps.stored (by assumption) (by assumption) rfl) | refine Keeps.trans ?_ (Keeps.fresh (by assumption) (by assumption) (by assumption))))) (by omega) (by omega)) ?_
                  rintro v w43 u43 hm lw43 mw43
                  refine s_callD rfl rfl rfl (by kernel_rfl) rfl (fun wc lc => c_rint (b.toNat - 48) (by omega) (by omega) wc) ?_
                  rintro v w44 u44 hdd lw44 mw44
                  refine s_callD rfl rfl rfl (by kernel_rfl) rfl (fun wc lc => c_add (hm.keeps (by repeat (first | exact Keeps.refl _ | refine Keeps.trans ?_ (Keeps.later (by assumption)) | refine Keeps.trans ?_ (Keeps.stored (by assumption) (by assumption) rfl) | refine Keeps.trans ?_ (Keeps.fresh (by assumption) (by assumption) (by assumption))))) (hdd.keeps (by repeat (first | exact Keeps.refl _ | refine Keeps.trans ?_ (Keeps.later (by assumption)) | refine Keeps.trans ?_ (Keeps.stored (by assumption) (by assumption) rfl) | refine Keeps.trans ?_ (Keeps.fresh (by assumption) (by assumption) (by assumption))))) (by omega) (by omega)) ?_
                  rintro v w45 u45 hn1 lw45 mw45
                  rw [← numD_snoc, ← take_succ_get hb] at hn1
                  have hd1 := all_take hd hb (isDig_iff.2 (by omega))
                  have hlt := numD_lt (t.take (j + 1)) 0 hd1 (by omega)
                  have hge := numD_up (t.take (j + 1)) 0 hd1 (by omega)
                  have hp1 := ten_pw (t.take (j + 1)).length
                  have hp2 := pw_mono (show (t.take (j + 1)).length ≤ j + 1 + 1 by rw [List.length_take]; omega)
                  have hp3 := pw_pos (j + 1 + 1)
                  have hn2 := hn1.tightK (j + 1 + 1) (by omega) (by omega)
                  clear hn1
                  obtain ⟨na2, nl2, nc2, rfl, nb⟩ := id hn2
                  clear nb
                  refine s_store rfl rfl rfl rfl rfl rfl rfl (fun w46 sw46 vw46 => ?_)
                  refine vOrd_nil ?_
                  refine Wp.region [0, 1, 2] (by kernel_rfl) (by kernel_rfl) ?_
                  refine s_move rfl rfl rfl rfl ?_
                  refine a_add (-9223372036854775808) 9223372036854775807 (by decide) rfl rfl rfl rfl rfl (by omega) (by omega) ?_
                  refine s_assign rfl rfl rfl rfl ?_
                  refine vOrd_nil ?_
                  exact ⟨_, _, by omega, (St.of_le' (env := [(0, .v _), (2, .p 2 _ 0), (4, .v _), (5, .p 5 _ 0), (6, .v _)]) (mem := [(2, _, [_, _]), (5, _, [_, _])]) ⟨rfl, rfl, rfl, rfl, rfl, trivial⟩ ⟨rfl, rfl, trivial⟩), j + 1, _, _, _, _, _, _, rfl, by omega, all_take hd hb (isDig_iff.2 (by omega)), hn2.keeps (by repeat (first | exact Keeps.refl _ | refine Keeps.trans ?_ (Keeps.later (by assumption)) | refine Keeps.trans ?_ (Keeps.stored (by assumption) (by assumption) rfl) | refine Keeps.trans ?_ (Keeps.fresh (by assumption) (by assumption) (by assumption)))), rfl⟩
            · refine vOrd_nil ?_
              refine Wp.condF rfl rfl ?_
              refine Wp.exit ?_
              have ej : j = t.length := by omega
              subst ej
              rw [List.take_length] at hd hz
              refine Wp.seq ?_
              refine Wp.seq ?_
              refine Wp.region [0, 1] (by kernel_rfl) (by kernel_rfl) ?_
              refine s_move rfl rfl rfl rfl ?_
              refine f_eql rfl rfl rfl rfl rfl (by decide) ?_
              refine vOrd_nil ?_
              refine Wp.condF rfl rfl ?_
              refine Wp.skip ?_
              refine Wp.seq ?_
              refine Wp.region [0, 1, 2] (by kernel_rfl) (by kernel_rfl) ?_
              refine s_load rfl rfl rfl rfl rfl rfl rfl ?_
              refine s_store rfl rfl rfl rfl rfl rfl rfl (fun w47 sw47 vw47 => ?_)
              refine s_assign rfl rfl rfl rfl ?_
              refine vOrd_nil ?_
              refine Wp.ret ⟨.inr rfl, fun lW => ⟨_, ⟨_, _, res_cell rfl rfl rfl rfl, res_tmp (P := Tryd.prog) rfl rfl, rfl⟩, _, rfl, ?_, lW⟩⟩
              clear lW
              have hN : isNum t = true := by unfold isNum; rw [hB, hd, hhd]; simp [h26]
              rw [numV_yes hN, hN]
              refine ⟨_, rfl, ?_⟩
              refine IsBig.upto (IsBig.eq (hz.keeps (by repeat (first | exact Keeps.refl _ | refine Keeps.trans ?_ (Keeps.later (by assumption)) | refine Keeps.trans ?_ (Keeps.stored (by assumption) (by assumption) rfl) | refine Keeps.trans ?_ (Keeps.fresh (by assumption) (by assumption) (by assumption))))) ?_) (by omega)
              unfold numOf; rw [hB, hM]; rfl
      · have hb48 : bb ≠ 48 := fun e => h23 (by subst e; rfl)
        refine s_move rfl rfl rfl rfl ?_
        refine s_skip rfl rfl rfl ?_
        refine s_skip rfl rfl rfl ?_
        refine s_pick rfl rfl rfl rfl rfl ?_
        refine s_pick rfl rfl rfl rfl rfl ?_
        refine vOrd_nil ?_
        refine Wp.condF rfl rfl ?_
        refine Wp.skip ?_
        refine Wp.seq ?_
        refine Wp.region [0, 1, 2] (by kernel_rfl) (by kernel_rfl) ?_
        refine s_build rfl rfl rfl rfl rfl (by kernel_rfl) ?_
        refine s_alloc rfl rfl rfl rfl rfl (fun bk48 w48 kb48 lw48 => ?_)
        refine s_store rfl rfl rfl rfl rfl rfl rfl (fun w49 sw49 vw49 => ?_)
        refine vOrd_nil ?_
        refine Wp.seq ?_
        refine Wp.seq ?_
        refine Wp.region [0, 1] (by kernel_rfl) (by kernel_rfl) ?_
        refine s_move rfl rfl rfl rfl ?_
        refine s_assign rfl rfl rfl rfl ?_
        refine vOrd_nil ?_
        refine Wp.block ?_
        refine Wp.loop (fun k st w2 => ∃ (j b2 b5 : Nat) (sb : Bool) (na : Option Addr) (nl nc : Nat), st = St.of [(0, .v (.string ⟨⟨t⟩⟩)), (2, .p 2 b2 0), (4, .v (.int .i64 0)), (5, .p 5 b5 0), (6, .v (.int .i64 ((j + 0 : Nat) : Int)))] [(2, b2, [.bool false, .slice none 0 0]), (5, b5, [.bool sb, .slice na nl nc])] ∧ j ≤ t.length ∧ (t.take j).all isDig = true ∧ IsBig (j + 1) (numD (t.take j) 0) (.agg #[.bool sb, .slice na nl nc]) w2 ∧ k = t.length - j) ?_ ?_
        · exact ⟨_, _, (St.of_le' (env := [(0, .v _), (2, .p 2 _ 0), (4, .v _), (5, .p 5 _ 0), (6, .v _)]) (mem := [(2, _, [_, _]), (5, _, [_, _])]) ⟨rfl, rfl, rfl, rfl, rfl, trivial⟩ ⟨rfl, rfl, trivial⟩), 0, _, _, _, _, _, _, rfl, by omega, rfl, big_zero _ _, rfl⟩
        · rintro k st w50 ⟨j, b2, b5, sb, na, nl, nc, rfl, hj, hd, hz, rfl⟩
          refine Wp.seq ?_
          refine Wp.seq ?_
          refine Wp.region [0, 1, 2, 3] (by kernel_rfl) (by kernel_rfl) ?_
          refine s_move rfl rfl rfl rfl ?_
          refine s_move rfl rfl rfl rfl ?_
          refine b_len rfl rfl rfl rfl rfl ?_
          refine p_lss rfl rfl rfl rfl rfl (fun h35 => ?_) (fun h35 => ?_)
          · refine vOrd_nil ?_
            refine Wp.condT rfl rfl ?_
            refine Wp.skip ?_
            refine Wp.seq ?_
            refine Wp.block ?_
            refine Wp.seq ?_
            refine Wp.seq ?_
            obtain ⟨b, hb⟩ := get_some (l := t) (i := j) (by omega)
            have hbi : t[Int.toNat ((j + 0 : Nat) : Int)]? = some b := hb
            have hN1 := numD_lt (t.take j) 0 hd (by omega)
            have hN0 := numD_up (t.take j) 0 hd (by omega)
            refine Wp.region [0, 1, 2, 3, 4, 5, 6, 7, 8, 9] (by kernel_rfl) (by kernel_rfl) ?_
            refine s_move rfl rfl rfl rfl ?_
            refine s_move rfl rfl rfl rfl ?_
            refine b_byte rfl rfl rfl rfl rfl rfl (by omega) (hbi) ?_
            refine p_lss rfl rfl rfl rfl rfl (fun h41 => ?_) (fun h41 => ?_)
            · refine s_move rfl rfl rfl rfl ?_
              refine s_skip rfl rfl rfl ?_
              refine s_skip rfl rfl rfl ?_
              refine s_skip rfl rfl rfl ?_
              refine s_skip rfl rfl rfl ?_
              refine s_pick rfl rfl rfl rfl rfl ?_
              refine vOrd_nil ?_
              refine Wp.condT rfl rfl ?_
              refine Wp.seq ?_
              refine Wp.region [0, 1, 2] (by kernel_rfl) (by kernel_rfl) ?_
              refine s_build rfl rfl rfl rfl rfl (by kernel_rfl) ?_
              refine s_store rfl rfl rfl rfl rfl rfl rfl (fun w51 sw51 vw51 => ?_)
              refine s_assign rfl rfl rfl rfl ?_
              refine vOrd_nil ?_
              refine Wp.ret ⟨.inr rfl, fun lW => ⟨_, ⟨_, _, res_cell rfl rfl rfl rfl, res_tmp (P := Tryd.prog) rfl rfl, rfl⟩, _, rfl, ?_, lW⟩⟩
              clear lW
              have hbn : isDig b = false := by simp [isDig]; omega
              have hN : isNum t = false := by unfold isNum; rw [hB, all_not hb hbn]; rfl
              rw [numV_no hN, hN]
              exact ⟨_, rfl, big_zero _ _⟩
            · refine s_move rfl rfl rfl rfl ?_
              refine s_move rfl rfl rfl rfl ?_
              refine s_move rfl rfl rfl rfl ?_
              refine b_byte rfl rfl rfl rfl rfl rfl (by omega) (hbi) ?_
              refine p_gtr rfl rfl rfl rfl rfl (fun h46 => ?_) (fun h46 => ?_)
              · refine s_pick rfl rfl rfl rfl rfl ?_
                refine vOrd_nil ?_
                refine Wp.condT rfl rfl ?_
                refine Wp.seq ?_
                refine Wp.region [0, 1, 2] (by kernel_rfl) (by kernel_rfl) ?_
                refine s_build rfl rfl rfl rfl rfl (by kernel_rfl) ?_
                refine s_store rfl rfl rfl rfl rfl rfl rfl (fun w52 sw52 vw52 => ?_)
                refine s_assign rfl rfl rfl rfl ?_
                refine vOrd_nil ?_
                refine Wp.ret ⟨.inr rfl, fun lW => ⟨_, ⟨_, _, res_cell rfl rfl rfl rfl, res_tmp (P := Tryd.prog) rfl rfl, rfl⟩, _, rfl, ?_, lW⟩⟩
                clear lW
                have hbn : isDig b = false := by simp [isDig]; omega
                have hN : isNum t = false := by unfold isNum; rw [hB, all_not hb hbn]; rfl
                rw [numV_no hN, hN]
                exact ⟨_, rfl, big_zero _ _⟩
              · refine s_pick rfl rfl rfl rfl rfl ?_
                refine vOrd_nil ?_
                refine Wp.condF rfl rfl ?_
                refine Wp.skip ?_
                refine (Wp.drawn (by kernel_rfl) (by kernel_rfl) [0, 3, 4, 5, 6, 7, 1, 2, 8, 9, 10] [250, 23, 15, 31, 63, 127, 0, 0, 0, 0, 0] (by kernel_rfl) (by kernel_rfl) (fun | 1 => IsBig 5 10 | 2 => IsBig (j + 1 + 5) (numD (t.take j) 0 * 10) | 8 => IsBig 5 (b.toNat - 48) | 9 => IsBig (max (j + 1 + 5) 5 + 1) (numD (t.take j) 0 * 10 + (b.toNat - 48)) | _ => fun _ _ => True) (fun _ _ => ?_))
                refine s_load rfl rfl rfl rfl rfl rfl rfl ?_
                refine s_move rfl rfl rfl rfl ?_
                refine s_move rfl rfl rfl rfl ?_
                refine b_byte rfl rfl rfl rfl rfl rfl (by omega) (hbi) ?_
                refine a_sub (0) 255 (by decide) rfl rfl rfl rfl rfl (by omega) (by omega) ?_
                refine a_conv (-9223372036854775808) 9223372036854775807 (by decide) rfl rfl rfl rfl rfl rfl (by omega) (by omega) ?_
                refine s_callD rfl rfl rfl (by kernel_rfl) rfl (fun wc lc => c_rint 10 (by decide) (by decide) wc) ?_
                rintro v w53 u53 h10 lw53 mw53
                refine s_callD rfl rfl rfl (by kernel_rfl) rfl (fun wc lc => c_mul (hz.keeps (by repeat (first | exact Keeps.refl _ | refine Keeps.trans ?_ (Keeps.later (by assumption)) | refine Keeps.trans ?_ (Keeps.stored (by assumption) (by assumption) rfl) | refine Keeps.trans ?_ (Keeps.fresh (by assumption) (by assumption) (by assumption))))) (h10.keeps (by repeat (first | exact Keeps.refl _ | refine Keeps.trans ?_ (Keeps.later (by assumption)) | refine Keeps.trans ?_ (Keeps.stored (by assumption) (by assumption) rfl) | refine Keeps.trans ?_ (Keeps.fresh (by assumption) (by assumption) (by assumption))))) (by omega) (by omega)) ?_
                rintro v w54 u54 hm lw54 mw54
                refine s_callD rfl rfl rfl (by kernel_rfl) rfl (fun wc lc => c_rint (b.toNat - 48) (by omega) (by omega) wc) ?_
                rintro v w55 u55 hdd lw55 mw55
                refine s_callD rfl rfl rfl (by kernel_rfl) rfl (fun wc lc => c_add (hm.keeps (by repeat (first | exact Keeps.refl _ | refine Keeps.trans ?_ (Keeps.later (by assumption)) | refine Keeps.trans ?_ (Keeps.stored (by assumption) (by assumption) rfl) | refine Keeps.trans ?_ (Keeps.fresh (by assumption) (by assumption) (by assumption))))) (hdd.keeps (by repeat (first | exact Keeps.refl _ | refine Keeps.trans ?_ (Keeps.later (by assumption)) | refine Keeps.trans ?_ (Keeps.stored (by assumption) (by assumption) rfl) | refine Keeps.trans ?_ (Keeps.fresh (by assumption) (by assumption) (by assumption))))) (by omega) (by omega)) ?_
                rintro v w56 u56 hn1 lw56 mw56
                rw [← numD_snoc, ← take_succ_get hb] at hn1
                have hd1 := all_take hd hb (isDig_iff.2 (by omega))
                have hlt := numD_lt (t.take (j + 1)) 0 hd1 (by omega)
                have hge := numD_up (t.take (j + 1)) 0 hd1 (by omega)
                have hp1 := ten_pw (t.take (j + 1)).length
                have hp2 := pw_mono (show (t.take (j + 1)).length ≤ j + 1 + 1 by rw [List.length_take]; omega)
                have hp3 := pw_pos (j + 1 + 1)
                have hn2 := hn1.tightK (j + 1 + 1) (by omega) (by omega)
                clear hn1
                obtain ⟨na2, nl2, nc2, rfl, nb⟩ := id hn2
                clear nb
                refine s_store rfl rfl rfl rfl rfl rfl rfl (fun w57 sw57 vw57 => ?_)
                refine vOrd_nil ?_
                refine Wp.region [0, 1, 2] (by kernel_rfl) (by kernel_rfl) ?_
                refine s_move rfl rfl rfl rfl ?_
                refine a_add (-9223372036854775808) 9223372036854775807 (by decide) rfl rfl rfl rfl rfl (by omega) (by omega) ?_
                refine s_assign rfl rfl rfl rfl ?_
                refine vOrd_nil ?_
                exact ⟨_, _, by omega, (St.of_le' (env := [(0, .v _), (2, .p 2 _ 0), (4, .v _), (5, .p 5 _ 0), (6, .v _)]) (mem := [(2, _, [_, _]), (5, _, [_, _])]) ⟨rfl, rfl, rfl, rfl, rfl, trivial⟩ ⟨rfl, rfl, trivial⟩), j + 1, _, _, _, _, _, _, rfl, by omega, all_take hd hb (isDig_iff.2 (by omega)), hn2.keeps (by repeat (first | exact Keeps.refl _ | refine Keeps.trans ?_ (Keeps.later (by assumption)) | refine Keeps.trans ?_ (Keeps.stored (by assumption) (by assumption) rfl) | refine Keeps.trans ?_ (Keeps.fresh (by assumption) (by assumption) (by assumption)))), rfl⟩
          · refine vOrd_nil ?_
            refine Wp.condF rfl rfl ?_
            refine Wp.exit ?_
            have ej : j = t.length := by omega
            subst ej
            rw [List.take_length] at hd hz
            refine Wp.seq ?_
            refine Wp.seq ?_
            refine Wp.region [0, 1] (by kernel_rfl) (by kernel_rfl) ?_
            refine s_move rfl rfl rfl rfl ?_
            refine f_eql rfl rfl rfl rfl rfl (by decide) ?_
            refine vOrd_nil ?_
            refine Wp.condF rfl rfl ?_
            refine Wp.skip ?_
            refine Wp.seq ?_
            refine Wp.region [0, 1, 2] (by kernel_rfl) (by kernel_rfl) ?_
            refine s_load rfl rfl rfl rfl rfl rfl rfl ?_
            refine s_store rfl rfl rfl rfl rfl rfl rfl (fun w58 sw58 vw58 => ?_)
            refine s_assign rfl rfl rfl rfl ?_
            refine vOrd_nil ?_
            refine Wp.ret ⟨.inr rfl, fun lW => ⟨_, ⟨_, _, res_cell rfl rfl rfl rfl, res_tmp (P := Tryd.prog) rfl rfl, rfl⟩, _, rfl, ?_, lW⟩⟩
            clear lW
            have hN : isNum t = true := by unfold isNum; rw [hB, hd, hhd]; simp [hb48, hne]
            rw [numV_yes hN, hN]
            refine ⟨_, rfl, ?_⟩
            refine IsBig.upto (IsBig.eq (hz.keeps (by repeat (first | exact Keeps.refl _ | refine Keeps.trans ?_ (Keeps.later (by assumption)) | refine Keeps.trans ?_ (Keeps.stored (by assumption) (by assumption) rfl) | refine Keeps.trans ?_ (Keeps.fresh (by assumption) (by assumption) (by assumption))))) ?_) (by omega)
            unfold numOf; rw [hB, hM]; rfl
  · have e0 : t0 = [] := List.eq_nil_of_length_eq_zero (by omega)
    subst e0
    refine s_move rfl rfl rfl rfl ?_
    refine s_skip rfl rfl rfl ?_
    refine s_skip rfl rfl rfl ?_
    refine s_skip rfl rfl rfl ?_
    refine s_pick rfl rfl rfl rfl rfl ?_
    refine vOrd_nil ?_
    refine Wp.condF rfl rfl ?_
    refine Wp.skip ?_
    refine Wp.seq ?_
    refine Wp.seq ?_
    refine Wp.region [0, 1, 2, 3, 4, 5, 6, 7, 8, 9, 10, 11, 12, 13] (by kernel_rfl) (by kernel_rfl) ?_
    refine s_move rfl rfl rfl rfl ?_
    refine b_len rfl rfl rfl rfl rfl ?_
    refine s_move rfl rfl rfl rfl ?_
    refine t_eql rfl rfl rfl rfl rfl (by decide) ?_
    refine s_move rfl rfl rfl rfl ?_
    refine s_skip rfl rfl rfl ?_
    refine s_skip rfl rfl rfl ?_
    refine s_skip rfl rfl rfl ?_
    refine s_skip rfl rfl rfl ?_
    refine s_skip rfl rfl rfl ?_
    refine s_skip rfl rfl rfl ?_
    refine s_skip rfl rfl rfl ?_
    refine s_skip rfl rfl rfl ?_
    refine s_pick rfl rfl rfl rfl rfl ?_
    refine vOrd_nil ?_
    refine Wp.condT rfl rfl ?_
    refine Wp.seq ?_
    refine Wp.region [0, 1, 2] (by kernel_rfl) (by kernel_rfl) ?_
    refine s_build rfl rfl rfl rfl rfl (by kernel_rfl) ?_
    refine s_store rfl rfl rfl rfl rfl rfl rfl (fun w59 sw59 vw59 => ?_)
    refine s_assign rfl rfl rfl rfl ?_
    refine vOrd_nil ?_
    refine Wp.ret ⟨.inr rfl, fun lW => ⟨_, ⟨_, _, res_cell rfl rfl rfl rfl, res_tmp (P := Tryd.prog) rfl rfl, rfl⟩, _, rfl, ?_, lW⟩⟩
    clear lW
    have hN : isNum [] = false := by decide
    exact ⟨_, rfl, big_zero _ _⟩
end Go.Proofs.YtpglfepkbkfgoaaDoor
