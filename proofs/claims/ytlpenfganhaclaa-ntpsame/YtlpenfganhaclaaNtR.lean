/-
  The reference's Ntp and FromNtp (P20.1, P20.2). Conditions: lengths that an int counts.
-/
import Derived.Test.YtlpenfganhaclaaCoR
namespace Go.Proofs.Ytlpenfganhaclaa
open Go.RowKit
set_option maxRecDepth 100000

theorem rntp_any {b n : Int} {u : Value} {m : Nat} {w : World} (hu : IsBig m n u w) (hm : m ≤ 100) : Calls Try.prog 8 #[.int .i64 b, u] w fun e w' => ∃ r, e = .returned r ∧ (∃ s, r = .tuple #[s, .int .i64 (ntE b n)] ∧ BytesAt w' s (ntL b n)) ∧ Below w.heap.size w w' := by
  obtain ⟨hua, hul, huc, rfl, -⟩ := id hu
  refine calls_Wp (args := [_, _]) (n := 50) Try.func8 rfl rfl (by simp) ?_
  refine Wp.seq ?_
  refine wR [0, 1, 2] ?_
  refine sE (fun bk1 w1 kb1 lw1 => ?_)
  try have kpz3 := Nat.le_trans pz.1.size kb1
  try replace pz := And.intro (pz.1.trans lw1) trivial
  refine sZ 2 ?_
  refine Wp.mid (fun st W => st = St.of [(0, .v (.int .i64 b)), (3, .p 3 bk1 0)] [(3, bk1, [.bool (sg n), .slice hua hul huc])] ∧ isN b = true) ?_ ?_
  · refine qQ 1 ?_
    refine p_neq rfl rfl rfl rfl rfl (fun h12 => ?_) (fun h12 => ?_)
    · refine sQ 2 ?_
      refine p_neq rfl rfl rfl rfl rfl (fun h15 => ?_) (fun h15 => ?_)
      · refine sQ 3 ?_
        refine p_neq rfl rfl rfl rfl rfl (fun h19 => ?_) (fun h19 => ?_)
        · refine sZ 1 ?_
          refine Wp.condT rfl rfl ?_
          refine qZ ?_
          refine Wp.ret ⟨.inr rfl, fun lW => ⟨_, ⟨_, _, res_tmp (P := Try.prog) rfl rfl, res_tmp (P := Try.prog) rfl rfl, rfl⟩, _, rfl, ?_, lW⟩⟩
          clear lW
          obtain ⟨e1, e2⟩ := nt_arg (b := b) (n := n) (isN_no.2 (by omega))
          rw [e1, e2]
          exact ⟨_, rfl, .inr ⟨rfl, rfl⟩⟩
        · refine sZ 1 ?_
          refine Wp.condF rfl rfl ?_
          refine Wp.skip ?_
          exact ⟨_, (St.of_le' (env := [(0, .v _), (3, .p 3 _ 0)]) (mem := [(3, _, [_, _])]) ⟨rfl, rfl, trivial⟩ ⟨rfl, trivial⟩), rfl, isN_iff.2 (by omega)⟩
      · refine sZ 5 ?_
        refine Wp.condF rfl rfl ?_
        refine Wp.skip ?_
        exact ⟨_, (St.of_le' (env := [(0, .v _), (3, .p 3 _ 0)]) (mem := [(3, _, [_, _])]) ⟨rfl, rfl, trivial⟩ ⟨rfl, trivial⟩), rfl, isN_iff.2 (by omega)⟩
    · refine sZ 8 ?_
      refine Wp.condF rfl rfl ?_
      refine Wp.skip ?_
      exact ⟨_, (St.of_le' (env := [(0, .v _), (3, .p 3 _ 0)]) (mem := [(3, _, [_, _])]) ⟨rfl, rfl, trivial⟩ ⟨rfl, trivial⟩), rfl, isN_iff.2 (by omega)⟩
  · rintro st w2 ⟨rfl, hN⟩
    refine Wp.seq ?_
    refine Wp.old (fun lq => ?_)
    have huw := hu.later lq
    have q0 := Int.emod_nonneg n (show (1000000000000000000 : Int) ≠ 0 by decide)
    have q1 := Int.emod_lt_of_pos n (show (0 : Int) < 1000000000000000000 by decide)
    refine wQ 1 ?_
    refine s_callT rfl rfl rfl (by kernel_rfl) rfl (rcut_any (huw.kp) (by omega)) ?_
    rintro v w3 ⟨su, rfl, hs⟩ lw3
    try replace pz := And.intro (pz.1.trans lw3) trivial
    obtain ⟨hsa, hsl, hsc, rfl, -⟩ := id hs
    refine sQ 3 ?_
    refine sO (fun bk4 w4 kb4 lw4 => ?_)
    try have kpz6 := Nat.le_trans pz.1.size kb4
    try replace pz := And.intro (pz.1.trans lw4) trivial
    refine sS (fun w5 sw5 vw5 => ?_)
    try replace pz := And.intro (pz.1.sto sw5 kpz6) trivial
    refine sZ 1 ?_
    refine Wp.mid (fun st W => ∃ (ka : Option Addr) (kl kc bk : Nat), st = St.of [(0, .v (.int .i64 b)), (6, .p 6 bk 0), (7, .v (.int .i64 (n % 1000000000000000000)))] [(6, bk, [.bool (sg (n / 1000000000000000000)), .slice ka kl kc])] ∧ IsBig (max m 4 + 1) (n / 1000000000000000000) (.agg #[.bool (sg (n / 1000000000000000000)), .slice ka kl kc]) W ∧ ¬ (b = 128 ∧ inI (n / 1000000000000000000) = false)) ?_ ?_
    · refine qQ 1 ?_
      refine s_callT rfl rfl rfl (by kernel_rfl) rfl (rsmall_any (hs.kp) (by omega)) ?_
      rintro v w6 rfl lw6
      try replace pz := And.intro (pz.1.trans lw6) trivial
      rcases Bool.eq_false_or_eq_true (inI (n / 1000000000000000000)) with h28 | h28
      · rw [h28]
        refine sZ 5 ?_
        refine qQ 1 ?_
        refine p_eql rfl rfl rfl rfl rfl (fun h32 => ?_) (fun h32 => ?_)
        · refine sZ 4 ?_
          refine Wp.condF rfl rfl ?_
          refine Wp.skip ?_
          exact ⟨_, (St.of_le' (env := [(0, .v _), (6, .p 6 _ 0), (7, .v _)]) (mem := [(6, _, [_, _])]) ⟨rfl, rfl, rfl, trivial⟩ ⟨rfl, trivial⟩), _, _, _, _, rfl, hs.kp, fun q => by first | exact absurd q.1 (by omega) | cases q.2 | (rw [h28] at q; cases q.2)⟩
        · refine sZ 4 ?_
          refine Wp.condF rfl rfl ?_
          refine Wp.skip ?_
          exact ⟨_, (St.of_le' (env := [(0, .v _), (6, .p 6 _ 0), (7, .v _)]) (mem := [(6, _, [_, _])]) ⟨rfl, rfl, rfl, trivial⟩ ⟨rfl, trivial⟩), _, _, _, _, rfl, hs.kp, fun q => by first | exact absurd q.1 (by omega) | cases q.2 | (rw [h28] at q; cases q.2)⟩
      · rw [h28]
        refine sZ 5 ?_
        refine qQ 1 ?_
        refine p_eql rfl rfl rfl rfl rfl (fun h32 => ?_) (fun h32 => ?_)
        · refine sZ 4 ?_
          refine Wp.condT rfl rfl ?_
          refine qZ ?_
          refine Wp.ret ⟨.inr rfl, fun lW => ⟨_, ⟨_, _, res_tmp (P := Try.prog) rfl rfl, res_tmp (P := Try.prog) rfl rfl, rfl⟩, _, rfl, ?_, lW⟩⟩
          clear lW
          obtain ⟨e1, e2⟩ := nt_over (n := n) hN ⟨by omega, h28⟩
          rw [e1, e2]
          exact ⟨_, rfl, .inr ⟨rfl, rfl⟩⟩
        · refine sZ 4 ?_
          refine Wp.condF rfl rfl ?_
          refine Wp.skip ?_
          exact ⟨_, (St.of_le' (env := [(0, .v _), (6, .p 6 _ 0), (7, .v _)]) (mem := [(6, _, [_, _])]) ⟨rfl, rfl, rfl, trivial⟩ ⟨rfl, trivial⟩), _, _, _, _, rfl, hs.kp, fun q => by first | exact absurd q.1 (by omega) | cases q.2 | (rw [h28] at q; cases q.2)⟩
    · rintro st w7 ⟨ka, kl, kc, bk, rfl, hs, hI⟩
      refine Wp.seq ?_
      have hk := ntK_cases hN
      obtain ⟨k, hkk⟩ : ∃ k, ntK b = k := ⟨_, rfl⟩
      rw [hkk] at hk
      have hkz : (k : Int) = b / 16 := by omega
      have q0 := Int.emod_nonneg n (show (1000000000000000000 : Int) ≠ 0 by decide)
      have q1 := Int.emod_lt_of_pos n (show (0 : Int) < 1000000000000000000 by decide)
      refine wQ 1 ?_
      refine a_quo rfl rfl rfl rfl rfl (by omega) (by omega) (by show _ ≤ (9223372036854775807 : Int); omega) ?_
      refine sZ 1 ?_
      refine qQ 2 ?_
      refine s_callT rfl rfl rfl (by kernel_rfl) rfl (rfold_any (hs.kp) (by omega) k hkz (by omega)) ?_
      rintro v w8 hf lw8
      try replace pz := And.intro (pz.1.trans lw8) trivial
      refine sM ?_
      refine s_callT rfl rfl rfl (by kernel_rfl) rfl (rocts_any (hf.kp) (by decide) k hkz (by omega)) ?_
      rintro v w9 ⟨c1, rfl, hc1, hv1⟩ lw9
      try replace pz := And.intro (pz.1.trans lw9) trivial
      replace hv1 := row_octs hv1
      rw [octL_len, octL_mod] at hv1
      have pz : Later w9 w9 ∧ True := ⟨Later.refl _, trivial⟩
      refine sQ 2 ?_
      refine s_callT rfl rfl rfl (by kernel_rfl) rfl (rcode_any ⟨by omega, by omega⟩ k hkz (by omega)) ?_
      rintro v w10 hc lw10
      try replace pz := And.intro (pz.1.trans lw10) trivial
      refine sM ?_
      refine s_callT rfl rfl rfl (by kernel_rfl) rfl (rocts_any (hc.kp) (by decide) k hkz (by omega)) ?_
      rintro v w11 ⟨c2, rfl, hc2, hv2⟩ lw11
      try replace pz := And.intro (pz.1.trans lw11) trivial
      replace hv2 := row_octs hv2
      rw [octL_len] at hv2
      refine s_callT rfl rfl rfl (by kernel_rfl) rfl (rjn_any (hv1.later pz.1) hv2 (by rw [octL_len]; omega) (by rw [octL_len]; omega)) ?_
      rintro v w12 hj lw12
      try replace pz := And.intro (pz.1.trans lw12) trivial
      refine sZ 2 ?_
      refine Wp.ret ⟨.inr rfl, fun lW => ⟨_, ⟨_, _, res_tmp (P := Try.prog) rfl rfl, res_tmp (P := Try.prog) rfl rfl, rfl⟩, _, rfl, ?_, lW⟩⟩
      clear lW
      obtain ⟨e1, e2⟩ := nt_ok (n := n) hN hI
      rw [e1, e2]
      unfold ntO
      rw [hkk]
      exact ⟨_, rfl, hj⟩
set_option maxHeartbeats 1000000 in
theorem rfromntp_any {b p : Int} {l : List UInt8} {v x : Value} {m : Nat} {w : World} (hb : I64 b) (hv : BytesAt w v l) (hl : l.length ≤ 9223372036854775807) (hp : IsBig m p x w) (hm : m ≤ 100) : Calls Try.prog 13 #[.int .i64 b, v, x] w fun e w' => ∃ r, e = .returned r ∧ (∃ s, r = .tuple #[s, .int .i64 (ndE b l p)] ∧ IsW (ndZ b l p) s) ∧ Below w.heap.size w w' := by
  obtain ⟨hpa, hpl, hpc, rfl, -⟩ := id hp
  obtain ⟨va, vc, rfl⟩ := hv.slice
  refine calls_Wp (args := [_, _, _]) (n := 82) Try.func13 rfl rfl (by simp) ?_
  refine Wp.seq ?_
  refine wR [0, 1, 2] ?_
  refine sE (fun bk1 w1 kb1 lw1 => ?_)
  refine sO (fun bk2 w2 kb2 lw2 => ?_)
  refine sZ 1 ?_
  refine Wp.mid (fun st W => st = St.of [(0, .v (.int .i64 b)), (1, .v (.slice va l.length vc)), (5, .p 5 bk1 0), (6, .p 6 bk2 0)] [(5, bk1, [.bool (sg p), .slice hpa hpl hpc]), (6, bk2, [.int .i64 0, .int .u64 0])] ∧ isN b = true) ?_ ?_
  · refine qQ 1 ?_
    refine p_neq rfl rfl rfl rfl rfl (fun h16 => ?_) (fun h16 => ?_)
    · refine sQ 2 ?_
      refine p_neq rfl rfl rfl rfl rfl (fun h19 => ?_) (fun h19 => ?_)
      · refine sQ 3 ?_
        refine p_neq rfl rfl rfl rfl rfl (fun h23 => ?_) (fun h23 => ?_)
        · refine sZ 1 ?_
          refine Wp.condT rfl rfl ?_
          refine Wp.seq ?_
          refine wR [0, 1, 2] ?_
          refine sB ?_
          refine sS (fun w3 sw3 vw3 => ?_)
          refine sZ 1 ?_
          refine Wp.ret ⟨.inr rfl, fun lW => ⟨_, ⟨_, _, res_cell rfl rfl rfl rfl, res_tmp (P := Try.prog) rfl rfl, rfl⟩, _, rfl, ?_, lW⟩⟩
          clear lW
          obtain ⟨e1, e2⟩ := nd_arg (b := b) (l := l) (p := p) (isN_no.2 (by omega))
          rw [e1, e2]
          exact ⟨_, rfl, _, _, rfl, (by unfold WideIs; omega)⟩
        · refine sZ 1 ?_
          refine Wp.condF rfl rfl ?_
          refine Wp.skip ?_
          exact ⟨_, (St.of_le' (env := [(0, .v _), (1, .v _), (5, .p 5 _ 0), (6, .p 6 _ 0)]) (mem := [(5, _, [_, _]), (6, _, [_, _])]) ⟨rfl, rfl, rfl, rfl, trivial⟩ ⟨rfl, rfl, trivial⟩), rfl, isN_iff.2 (by omega)⟩
      · refine sZ 5 ?_
        refine Wp.condF rfl rfl ?_
        refine Wp.skip ?_
        exact ⟨_, (St.of_le' (env := [(0, .v _), (1, .v _), (5, .p 5 _ 0), (6, .p 6 _ 0)]) (mem := [(5, _, [_, _]), (6, _, [_, _])]) ⟨rfl, rfl, rfl, rfl, trivial⟩ ⟨rfl, rfl, trivial⟩), rfl, isN_iff.2 (by omega)⟩
    · refine sZ 8 ?_
      refine Wp.condF rfl rfl ?_
      refine Wp.skip ?_
      exact ⟨_, (St.of_le' (env := [(0, .v _), (1, .v _), (5, .p 5 _ 0), (6, .p 6 _ 0)]) (mem := [(5, _, [_, _]), (6, _, [_, _])]) ⟨rfl, rfl, rfl, rfl, trivial⟩ ⟨rfl, rfl, trivial⟩), rfl, isN_iff.2 (by omega)⟩
  · rintro st w4 ⟨rfl, hN⟩
    refine Wp.seq ?_
    have hk := ntK_cases hN
    obtain ⟨k, hkk⟩ : ∃ k, ntK b = k := ⟨_, rfl⟩
    rw [hkk] at hk
    have hkz : (k : Int) = b / 16 := by omega
    refine wQ 1 ?_
    refine a_quo rfl rfl rfl rfl rfl (by omega) (by omega) (by show _ ≤ (9223372036854775807 : Int); omega) ?_
    refine sZ 1 ?_
    rw [← hkz]
    refine Wp.seq ?_
    refine qQ 1 ?_
    refine x_len rfl rfl rfl rfl rfl ?_
    refine sM ?_
    refine a_mul (-9223372036854775808) 9223372036854775807 (by decide) rfl rfl rfl rfl rfl (by omega) (by omega) ?_
    refine p_neq rfl rfl rfl rfl rfl (fun h32 => ?_) (fun h32 => ?_)
    · refine vOrd_nil ?_
      refine Wp.condT rfl rfl ?_
      refine Wp.seq ?_
      refine wR [0, 1, 2] ?_
      refine sB ?_
      refine sS (fun w5 sw5 vw5 => ?_)
      refine sZ 1 ?_
      refine Wp.ret ⟨.inr rfl, fun lW => ⟨_, ⟨_, _, res_cell rfl rfl rfl rfl, res_tmp (P := Try.prog) rfl rfl, rfl⟩, _, rfl, ?_, lW⟩⟩
      clear lW
      obtain ⟨e1, e2⟩ := nd_form (p := p) hN (l := l) (by rw [hkk]; omega)
      rw [e1, e2]
      exact ⟨_, rfl, _, _, rfl, (by unfold WideIs; omega)⟩
    · refine vOrd_nil ?_
      refine Wp.condF rfl rfl ?_
      refine Wp.skip ?_
      refine Wp.seq ?_
      refine Wp.old (fun lq => ?_)
      have hvw := hv.later lq
      have hpw := hp.later lq
      have hlen : l.length = 2 * k := by omega
      refine wQ 2 ?_
      refine x_fromB (l := l) rfl rfl rfl rfl hvw rfl rfl rfl (by omega) (by omega) ?_
      intro vd hvd
      rw [Int.toNat_natCast] at hvd
      refine s_callT rfl rfl rfl (by kernel_rfl) rfl (rnumber_any hvd (by rw [List.length_drop]; omega)) ?_
      rintro v w9 hn lw9
      refine sM ?_
      refine s_callT rfl rfl rfl (by kernel_rfl) rfl (rleast_any (hn.kp) (by decide) k rfl (by omega) (by have := numL_in (l.drop k); rw [List.length_drop, show l.length - k = k by omega] at this; exact this)) ?_
      rintro v w10 rfl lw10
      rcases Bool.eq_false_or_eq_true (lsB (numL (l.drop k)) k) with h40 | h40
      · rw [h40]
        rw [ls_t h40]
        have hli := ls_in h40 (by have := numL_in (l.drop k); rw [List.length_drop, show l.length - k = k by omega] at this; exact this)
        refine sZ 5 ?_
        refine Wp.seq ?_
        refine qZ ?_
        refine Wp.condF rfl rfl ?_
        refine Wp.skip ?_
        refine Wp.seq ?_
        refine Wp.old (fun lq2 => ?_)
        have hvw2 := hv.later lq2
        refine wQ 2 ?_
        refine x_toB (l := l) rfl rfl rfl rfl hvw2 rfl rfl rfl (by omega) (by omega) (by omega) ?_
        intro vt hvt
        rw [Int.toNat_natCast] at hvt
        refine s_callT rfl rfl rfl (by kernel_rfl) rfl (rnumber_any hvt (by rw [List.length_take]; omega)) ?_
        rintro v w14 hs lw14
        obtain ⟨hsa, hsl, hsc, rfl, -⟩ := id hs
        refine sO (fun bk15 w15 kb15 lw15 => ?_)
        refine sS (fun w16 sw16 vw16 => ?_)
        refine vOrd_nil ?_
        refine Wp.mid (fun st W => ∃ (sg0 : Int) (ka : Option Addr) (kl kc bk : Nat), st = St.of [(1, .v (.slice va l.length vc)), (5, .p 5 bk1 0), (6, .p 6 bk2 0), (8, .v (.int .i64 (k : Int))), (9, .v (.int .i64 (flI (numL (l.drop k)) k))), (11, .p 11 bk 0)] [(5, bk1, [.bool (sg p), .slice hpa hpl hpc]), (6, bk2, [.int .i64 0, .int .u64 0]), (11, bk, [.bool (sg sg0), .slice ka kl kc])] ∧ IsBig 401 sg0 (.agg #[.bool (sg sg0), .slice ka kl kc]) W ∧ sg0 = if k = 8 then sgnO (numL (l.take k)) else numL (l.take k)) ?_ ?_
        · refine Wp.seq ?_
          have hc63 := @cmpI_low (numL (l.take k)) (p2 63)
          have e63 : p2 63 = 9223372036854775808 := by decide
          have e64 : p2 64 = 18446744073709551616 := by decide
          refine wD [0, 1, 2, 3, 4, 5, 6, 7] [0, 0, 0, 23, 0, 0, 0, 0] (fun | 4 => IsBig 4 (p2 63) | 5 => fun v _ => v = .int .i64 (cmpI (numL (l.take k)) (p2 63)) | _ => fun _ _ => True) (fun _ _ => ?_)
          refine sM ?_
          refine p_eql rfl rfl rfl rfl rfl (fun h51 => ?_) (fun h51 => ?_)
          · refine sQ 2 ?_
            refine s_callD rfl rfl rfl (by kernel_rfl) rfl (fun wc lc => c_pw2 63 rfl (by decide) wc) ?_
            rintro v w17 u17 h63 lw17 mw17
            refine s_callD rfl rfl rfl (by kernel_rfl) rfl (fun wc lc => c_cmp (hs.kp) (h63.kp) (by decide) (by decide)) ?_
            rintro v w18 u18 rfl lw18 mw18
            refine p_geq rfl rfl rfl rfl rfl (fun h56 => ?_) (fun h56 => ?_)
            · refine sZ 1 ?_
              refine Wp.condT rfl rfl ?_
              refine wD [0, 1, 2, 3] [2, 0, 0, 0] (fun | 1 => IsBig 5 (p2 64) | 2 => IsBig 401 (numL (l.take k) - 18446744073709551616) | _ => fun _ _ => True) (fun _ _ => ?_)
              refine sL ?_
              refine s_callD rfl rfl rfl (by kernel_rfl) rfl (fun wc lc => c_pw2 64 rfl (by decide) wc) ?_
              rintro v w19 u19 h64 lw19 mw19
              refine s_callD rfl rfl rfl (by kernel_rfl) rfl (fun wc lc => c_rsub (hs.kp) (h64.kp) (by decide) (by decide)) ?_
              rintro v w20 u20 hd lw20 mw20
              obtain ⟨hda, hdl, hdc, rfl, -⟩ := id hd
              refine sS (fun w21 sw21 vw21 => ?_)
              refine vOrd_nil ?_
              exact ⟨_, (St.of_le' (env := [(1, .v _), (5, .p 5 _ 0), (6, .p 6 _ 0), (8, .v _), (9, .v _), (11, .p 11 _ 0)]) (mem := [(5, _, [_, _]), (6, _, [_, _]), (11, _, [_, _])]) ⟨rfl, rfl, rfl, rfl, rfl, rfl, trivial⟩ ⟨rfl, rfl, rfl, trivial⟩), _, _, _, _, _, rfl, (hd.kp).upto (by decide), by rw [if_pos (by omega)]; unfold sgnO; rw [if_pos (by omega)]⟩
            · refine sZ 1 ?_
              refine Wp.condF rfl rfl ?_
              refine Wp.skip ?_
              exact ⟨_, (St.of_le' (env := [(1, .v _), (5, .p 5 _ 0), (6, .p 6 _ 0), (8, .v _), (9, .v _), (11, .p 11 _ 0)]) (mem := [(5, _, [_, _]), (6, _, [_, _]), (11, _, [_, _])]) ⟨rfl, rfl, rfl, rfl, rfl, rfl, trivial⟩ ⟨rfl, rfl, rfl, trivial⟩), _, _, _, _, _, rfl, (hs.kp).upto (by decide), by rw [if_pos (by omega)]; unfold sgnO; rw [if_neg (by omega)]⟩
          · refine sZ 6 ?_
            refine Wp.condF rfl rfl ?_
            refine Wp.skip ?_
            exact ⟨_, (St.of_le' (env := [(1, .v _), (5, .p 5 _ 0), (6, .p 6 _ 0), (8, .v _), (9, .v _), (11, .p 11 _ 0)]) (mem := [(5, _, [_, _]), (6, _, [_, _]), (11, _, [_, _])]) ⟨rfl, rfl, rfl, rfl, rfl, rfl, trivial⟩ ⟨rfl, rfl, rfl, trivial⟩), _, _, _, _, _, rfl, (hs.kp).upto (by decide), by rw [if_neg (by omega)]⟩
        · rintro st w22 ⟨sg0, ka, kl, kc, bk, rfl, hS, hSe⟩
          refine Wp.seq ?_
          refine Wp.old (fun lq3 => ?_)
          have hpw3 := hp.later lq3
          refine wQ 1 ?_
          refine s_callT rfl rfl rfl (by kernel_rfl) rfl (rsecs_any (hS.kp) (by decide)) ?_
          rintro v w23 hss lw23
          refine sM ?_
          refine s_callT rfl rfl rfl (by kernel_rfl) rfl (c_rint (flI (numL (l.drop k)) k) (by omega) (by omega) _) ?_
          rintro v w24 hai lw24
          refine s_callT rfl rfl rfl (by kernel_rfl) rfl (c_add (hss.kp) (hai.kp) (by decide) (by decide)) ?_
          rintro v w25 hF lw25
          obtain ⟨hFa, hFl, hFc, rfl, -⟩ := id hF
          refine sO (fun bk26 w26 kb26 lw26 => ?_)
          refine sS (fun w27 sw27 vw27 => ?_)
          refine vOrd_nil ?_
          refine Wp.seq ?_
          refine qQ 1 ?_
          refine p_eql rfl rfl rfl rfl rfl (fun h67 => ?_) (fun h67 => ?_)
          · obtain rfl : k = 8 := by omega
            obtain rfl : b = 128 := by omega
            rw [if_pos rfl] at hSe
            obtain ⟨e1, e2⟩ := nd_whole (l := l) (p := p) hlen h40
            rw [e1, e2]
            have hti := numL_in (l.take 8)
            rw [List.length_take, Nat.min_eq_left (by omega)] at hti
            have hsi := inI_iff.1 (sgn_in hti).1
            have g1 := fit_in (z := sg0 * 1000000000000000000 + flI (numL (l.drop 8)) 8) (by omega) (by omega)
            refine vOrd_nil ?_
            refine Wp.condT rfl rfl ?_
            refine qQ 1 ?_
            refine s_callT rfl rfl rfl (by kernel_rfl) rfl (c_rwide (hF.kp) (by decide)) ?_
            rintro v w28 ⟨tu, rfl, th, tl, rfl, ht⟩ lw28
            rw [g1] at ht
            refine sQ 3 ?_
            refine sO (fun bk29 w29 kb29 lw29 => ?_)
            refine sS (fun w30 sw30 vw30 => ?_)
            refine sZ 1 ?_
            refine qQ 1 ?_
            refine sS (fun w31 sw31 vw31 => ?_)
            refine sZ 1 ?_
            refine Wp.ret ⟨.inr rfl, fun lW => ⟨_, ⟨_, _, res_cell rfl rfl rfl rfl, res_tmp (P := Try.prog) rfl rfl, rfl⟩, _, rfl, ?_, lW⟩⟩
            clear lW
            rw [← hSe]
            exact ⟨_, rfl, _, _, rfl, ht⟩
          · rw [if_neg (by omega)] at hSe
            obtain ⟨e1, e2⟩ := nd_era (p := p) hN (by omega) (l := l) (by rw [hkk]; exact hlen) (by rw [hkk]; exact h40)
            rw [hkk] at e1 e2
            rw [e1, e2]
            have hFe : sg0 * 1000000000000000000 + flI (numL (l.drop k)) k = ndF l k := by rw [hSe]; rfl
            rw [hFe] at hF ⊢
            refine vOrd_nil ?_
            refine Wp.condF rfl rfl ?_
            refine Wp.skip ?_
            refine Wp.seq ?_
            refine wD [0, 1, 4, 2, 3, 5, 6, 7, 8, 9] [30, 17, 15, 0, 0, 0, 191, 0, 0, 0] (fun | 2 => IsBig 9 (oP k) | 3 => IsBig 14 (oP k * 1000000000000000000) | 5 => fun v _ => ∃ s, v = .tuple #[s, .int .i64 (abE (ndF l k) (oP k * 1000000000000000000) p)] ∧ IsW (abZ (ndF l k) (oP k * 1000000000000000000) p) s | _ => fun _ _ => True) (fun _ _ => ?_)
            refine sQ 3 ?_
            refine s_callD rfl rfl rfl (by kernel_rfl) rfl (fun wc lc => rpow_any k rfl (by omega)) ?_
            rintro v w32 u32 hw lw32 mw32
            refine s_callD rfl rfl rfl (by kernel_rfl) rfl (fun wc lc => rsecs_any (hw.kp) (by decide)) ?_
            rintro v w33 u33 hE lw33 mw33
            refine s_callD rfl rfl rfl (by kernel_rfl) rfl (fun wc lc => rabout_any (hF.kp) (hE.kp) (hpw3.kp) (by decide) (by decide) (by omega) (by have := oP_pos k; omega)) ?_
            rintro v w34 u34 ⟨au, rfl, ah, al, rfl, hA⟩ lw34 mw34
            refine sQ 2 ?_
            refine sS (fun w35 sw35 vw35 => ?_)
            refine sZ 1 ?_
            refine Wp.ret ⟨.inr rfl, fun lW => ⟨_, ⟨_, _, res_cell rfl rfl rfl rfl, res_tmp (P := Try.prog) rfl rfl, rfl⟩, _, rfl, ?_, lW⟩⟩
            clear lW
            exact ⟨_, rfl, _, _, rfl, hA⟩
      · rw [h40]
        rw [ls_f h40]
        refine sZ 5 ?_
        refine Wp.seq ?_
        refine qZ ?_
        refine Wp.condT rfl rfl ?_
        refine Wp.seq ?_
        refine wR [0, 1, 2] ?_
        refine sB ?_
        refine sS (fun w36 sw36 vw36 => ?_)
        refine sZ 1 ?_
        refine Wp.ret ⟨.inr rfl, fun lW => ⟨_, ⟨_, _, res_cell rfl rfl rfl rfl, res_tmp (P := Try.prog) rfl rfl, rfl⟩, _, rfl, ?_, lW⟩⟩
        clear lW
        obtain ⟨e1, e2⟩ := nd_fine (p := p) hN (l := l) (by rw [hkk]; exact hlen) (by rw [hkk]; exact h40)
        rw [e1, e2]
        exact ⟨_, rfl, _, _, rfl, (by unfold WideIs; omega)⟩
end Go.Proofs.Ytlpenfganhaclaa
