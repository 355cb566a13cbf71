/-
  The program's contracts of layer 20 (P20.1, P20.2): Encode, Decode, and what they stand on: half, era, both, moment. Of any octets and any numbers.
-/
import Derived.Test.YtlpenfganhaclaaNtR
import Derived.Test.YtlpenfganhaclaaFrB
import Derived.Test.YtlpenfganhaclaaPvB
namespace Go.Proofs.Ytlpenfganhaclaa
open Go.RowKit
set_option maxRecDepth 100000

def nhZ (b : Int) : Int := if isN b = true then (ntK b : Int) else 0
theorem nh_no {b : Int} (h : isN b = false) : nhZ b = 0 := if_neg (by rw [h]; decide)
theorem nh_yes {b : Int} (h : isN b = true) : nhZ b = (ntK b : Int) := if_pos h
/-- What the pivot tells of a field that is in its era. -/
theorem pn_ab {f n p : Int} (h0 : 0 < n) (hk : 0 ≤ f ∧ f < n) : pnE f n p = abE f n p ∧ pnZ f n p = abZ f n p := by
  by_cases q : inW (p - n / 2) = true ∧ inW (pnI f n p) = true
  · obtain ⟨a1, a2⟩ := pn_ok (p := p) h0 hk q
    obtain ⟨b1, b2⟩ := ab_ok q
    exact ⟨a1.trans b1.symm, a2.trans b2.symm⟩
  · obtain ⟨a1, a2⟩ := pn_over (p := p) h0 hk q
    obtain ⟨b1, b2⟩ := ab_no q
    exact ⟨a1.trans b1.symm, a2.trans b2.symm⟩
theorem oP_8 : oP 8 = 18446744073709551616 := by decide +kernel
theorem pn_sgn {s : Int} (h : 0 ≤ s ∧ s < oP 8) : pnZ s (oP 8) 0 = sgnO s := by
  have e8 := oP_8
  have hp : pnI s (oP 8) 0 = sgnO s := by
    unfold pnI sgnO
    rw [e8] at h ⊢
    split <;> omega
  have hs := inI_iff.1 (sgn_in h).1
  have iw1 : inW (0 - oP 8 / 2) = true := by rw [e8]; decide
  have iw2 : inW (pnI s (oP 8) 0) = true := by
    rw [hp]; unfold inW; rw [decide_eq_true_iff]; omega
  rw [(pn_ok (p := 0) (by omega) h ⟨iw1, iw2⟩).2, hp]

theorem nhalf_any {b : Int} (hb : I64 b) {w : World} : Calls Try.prog 19 #[.int .i64 b] w fun e w' => ∃ r, e = .returned r ∧ r = .int .i64 (nhZ b) ∧ Below w.heap.size w w' := by
  obtain ⟨b0, b1⟩ := hb
  refine calls_Wp (args := [_]) (n := 10) Try.func19 rfl rfl (by simp) ?_
  refine qZ ?_
  refine Wp.seq ?_
  refine qZ ?_
  refine Wp.block ?_
  refine Wp.seq ?_
  refine Wp.seq ?_
  refine wR [0, 1] ?_
  refine p_eql rfl rfl rfl rfl rfl (fun h5 => ?_) (fun h5 => ?_)
  · refine sZ 1 ?_
    refine Wp.condT rfl rfl ?_
    refine Wp.skip ?_
    refine Wp.condT rfl rfl ?_
    refine qQ 1 ?_
    refine a_quo rfl rfl rfl rfl rfl (by omega) (by omega) (by show _ ≤ (9223372036854775807 : Int); omega) ?_
    refine sZ 1 ?_
    refine Wp.ret ⟨.inr rfl, fun lW => ⟨_, res_tmp (P := Try.prog) rfl rfl, _, rfl, ?_, lW⟩⟩
    clear lW
    have hN : isN b = true := isN_iff.2 (by omega)
    have hk := ntK_cases hN
    rw [nh_yes hN, show (ntK b : Int) = b / 16 by omega]
  · refine sZ 1 ?_
    refine Wp.condF rfl rfl ?_
    refine Wp.seq ?_
    refine wR [0, 1] ?_
    refine p_eql rfl rfl rfl rfl rfl (fun h6 => ?_) (fun h6 => ?_)
    · refine sZ 1 ?_
      refine Wp.condT rfl rfl ?_
      refine Wp.skip ?_
      refine Wp.condT rfl rfl ?_
      refine qQ 1 ?_
      refine a_quo rfl rfl rfl rfl rfl (by omega) (by omega) (by show _ ≤ (9223372036854775807 : Int); omega) ?_
      refine sZ 1 ?_
      refine Wp.ret ⟨.inr rfl, fun lW => ⟨_, res_tmp (P := Try.prog) rfl rfl, _, rfl, ?_, lW⟩⟩
      clear lW
      have hN : isN b = true := isN_iff.2 (by omega)
      have hk := ntK_cases hN
      rw [nh_yes hN, show (ntK b : Int) = b / 16 by omega]
    · refine sZ 1 ?_
      refine Wp.condF rfl rfl ?_
      refine wR [0, 1] ?_
      refine p_eql rfl rfl rfl rfl rfl (fun h7 => ?_) (fun h7 => ?_)
      · refine sZ 1 ?_
        refine Wp.condT rfl rfl ?_
        refine qQ 1 ?_
        refine a_quo rfl rfl rfl rfl rfl (by omega) (by omega) (by show _ ≤ (9223372036854775807 : Int); omega) ?_
        refine sZ 1 ?_
        refine Wp.ret ⟨.inr rfl, fun lW => ⟨_, res_tmp (P := Try.prog) rfl rfl, _, rfl, ?_, lW⟩⟩
        clear lW
        have hN : isN b = true := isN_iff.2 (by omega)
        have hk := ntK_cases hN
        rw [nh_yes hN, show (ntK b : Int) = b / 16 by omega]
      · refine sZ 1 ?_
        refine Wp.condF rfl rfl ?_
        refine Wp.skip ?_
        refine qZ ?_
        refine Wp.ret ⟨.inr rfl, fun lW => ⟨_, res_tmp (P := Try.prog) rfl rfl, _, rfl, ?_, lW⟩⟩
        clear lW
        rw [nh_no (isN_no.2 (by omega))]

theorem nera_any (k : Nat) {o : Int} (ho : (k : Int) = o) (hk : k ≤ 14) {w : World} : Calls Try.prog 24 #[.int .i64 o] w fun e w' => ∃ r, e = .returned r ∧ IsW (oP k) r ∧ Below w.heap.size w w' := by
  refine calls_Wp (args := [_]) (n := 16) Try.func24 rfl rfl (by simp) ?_
  refine Wp.seq ?_
  refine wR [0] ?_
  refine sO (fun bk1 w1 kb1 lw1 => ?_)
  refine vOrd_nil ?_
  refine Wp.seq ?_
  refine wR [0, 1, 2] ?_
  refine s_callT rfl rfl rfl (by kernel_rfl) rfl (c_wof 1 (by decide) (by decide) _) ?_
  rintro v w2 ⟨oh, ol, rfl, h1⟩ lw2
  refine sO (fun bk3 w3 kb3 lw3 => ?_)
  refine sS (fun w4 sw4 vw4 => ?_)
  refine vOrd_nil ?_
  refine Wp.seq ?_
  refine qZ ?_
  refine Wp.block ?_
  refine Wp.loop (fun q st W => ∃ (i : Nat) (p zh zl : Int), st = St.of [(2, .p 2 bk1 0), (3, .p 3 bk3 0), (5, .v (.int .i64 o)), (6, .v (.int .i64 p))] [(2, bk1, [.int .i64 0, .int .u64 0]), (3, bk3, [.int .i64 zh, .int .u64 zl])] ∧ p = (i : Int) ∧ i ≤ k ∧ WideIs zh zl (oP i) ∧ q = k - i) ?_ ?_
  · exact ⟨_, _, (St.of_le' (env := [(2, .p 2 _ 0), (3, .p 3 _ 0), (5, .v _), (6, .v _)]) (mem := [(2, _, [_, _]), (3, _, [_, _])]) ⟨rfl, rfl, rfl, rfl, trivial⟩ ⟨rfl, rfl, trivial⟩), 0, 0, oh, ol, rfl, rfl, Nat.zero_le _, h1, rfl⟩
  · rintro k st w5 ⟨i, p, zh, zl, rfl, hp, hi, hw, rfl⟩
    refine Wp.seq ?_
    refine wR [0] ?_
    refine p_lss rfl rfl rfl rfl rfl (fun h7 => ?_) (fun h7 => ?_)
    · refine vOrd_nil ?_
      refine Wp.seq ?_
      refine Wp.condT rfl rfl ?_
      refine Wp.skip ?_
      refine Wp.seq ?_
      refine Wp.block ?_
      have hP0 := oP_pos i
      have hP1 := oP_low (k := i) (by omega)
      obtain ⟨-, fv, -⟩ := fr_fit (z := oP i * 256) (by omega) (by omega)
      refine wD [0, 1, 2, 3, 4, 5, 6] [2, 0, 0, 0, 47, 95, 0] (fun | 1 => fun v _ => IsW 256 v | 2 => fun v _ => ∃ s, v = .tuple #[s, .int .i64 (fitE (oP i * 256))] ∧ IsW (fitV (oP i * 256)) s | _ => fun _ _ => True) (fun _ _ => ?_)
      refine sL ?_
      refine s_callD rfl rfl rfl (by kernel_rfl) rfl (fun wc lc => c_wof 256 (by decide) (by decide) wc) ?_
      rintro v w6 u6 h256 lw6 mw6
      refine sD (fun wc lc => c_wmul ⟨_, _, rfl, hw⟩ h256 wc) ?_
      rintro v w7 u7 ⟨s, rfl, sh, sl, rfl, hs⟩ lw7 mw7
      rw [fv, ← oP_succ] at hs
      refine sQ 3 ?_
      refine sS (fun w8 sw8 vw8 => ?_)
      refine vOrd_nil ?_
      refine wR [0, 1] ?_
      refine aP (-9223372036854775808) 9223372036854775807 ?_
      refine sZ 1 ?_
      exact ⟨_, _, by omega, (St.of_le' (env := [(2, .p 2 _ 0), (3, .p 3 _ 0), (5, .v _), (6, .v _)]) (mem := [(2, _, [_, _]), (3, _, [_, _])]) ⟨rfl, rfl, rfl, rfl, trivial⟩ ⟨rfl, rfl, trivial⟩), i + 1, _, _, _, rfl, by omega, by omega, hs, rfl⟩
    · obtain rfl : i = k := by omega
      refine vOrd_nil ?_
      refine Wp.seq ?_
      refine Wp.condF rfl rfl ?_
      refine Wp.exit ?_
      refine qQ 1 ?_
      refine sS (fun w9 sw9 vw9 => ?_)
      refine vOrd_nil ?_
      refine Wp.ret ⟨.inr rfl, fun lW => ⟨_, res_cell rfl rfl rfl rfl, _, rfl, ?_, lW⟩⟩
      clear lW
      exact ⟨_, _, rfl, hw⟩

theorem nboth_any {f c o : Int} {u v : Value} (k : Nat) (ho : (k : Int) = o) (hk : k ≤ 15) (hf : IsW f u) (hc : IsW c v) (hf0 : 0 ≤ f ∧ f < oP k) (hc0 : 0 ≤ c ∧ c < oP k) {w : World} : Calls Try.prog 26 #[u, v, .int .i64 o] w fun e w' => ∃ r, e = .returned r ∧ BytesAt w' r (octL f k ++ octL c k) ∧ Below w.heap.size w w' := by
  obtain ⟨_, _, rfl, hf⟩ := hf
  obtain ⟨_, _, rfl, hc⟩ := hc
  have hot : o.toNat = k := by omega
  obtain ⟨e1, e2⟩ := fp_ok (n := f) (o := o) (by omega) (by rw [hot]; exact hf0)
  obtain ⟨g1, g2⟩ := fp_ok (n := c) (o := o) (by omega) (by rw [hot]; exact hc0)
  rw [hot] at e2 g2
  refine calls_Wp (args := [_, _, _]) (n := 26) Try.func26 rfl rfl (by simp) ?_
  refine Wp.seq ?_
  refine wR [0, 1, 2] ?_
  refine sE (fun bk1 w1 kb1 lw1 => ?_)
  have hzlw1 := lw1.size
  try replace ho1 := own_later ho1 lw1
  refine sE (fun bk2 w2 kb2 lw2 => ?_)
  have hzlw2 := lw2.size
  try replace ho1 := own_later ho1 lw2
  refine sZ 1 ?_
  refine Wp.seq ?_
  refine Wp.var (h := 3) rfl (fun v3 => ?_)
  have q3 := v3.lt
  refine Wp.var (h := 4) rfl (fun v4 => ?_)
  have q4 := v4.lt
  refine wQ 2 ?_
  refine sT (fput_own (o := o) ⟨_, _, rfl, hf⟩ ⟨by omega, by omega⟩ (w := _)) ?_
  rintro v w3 ⟨s1, rfl, ho1⟩ lw3
  have hzlw3 := lw3.size
  try replace ho1 := own_later ho1 lw3
  rw [e2, octL_len] at ho1
  obtain ⟨a1, c1, rfl⟩ := own_slice ho1
  refine sZ 5 ?_
  refine qQ 2 ?_
  refine sT (fput_any (o := o) ⟨_, _, rfl, hc⟩ ⟨by omega, by omega⟩ (w := _)) ?_
  rintro v w4 ⟨s2, rfl, hb2⟩ lw4
  have hzlw4 := lw4.size
  try replace ho1 := own_later ho1 lw4
  rw [g2] at hb2
  refine sZ 5 ?_
  refine qQ 2 ?_
  refine x_appendB (base := w2.heap.size) (n := k) (xs := bytesV (octL f k)) (l := octL c k) rfl rfl rfl rfl rfl rfl rfl rfl rfl rfl rfl ho1 hb2 (by rw [octL_len]; omega) (by omega) (by omega) (by repeat (first | exact AllMem.args | exact AllMem.of (by simp only [AllL, and_true]; omega) | refine AllMem.put ?_ | refine AllMem.new ?_ (by omega) | refine AllMem.set ?_ (by omega))) ?_
  intro v5 w5 hown5 hg5
  rw [← bytesV_app] at hown5
  refine sZ 1 ?_
  refine Wp.ret ⟨.inr rfl, fun lW => ⟨_, res_tmp (P := Try.prog) rfl rfl, _, rfl, ?_, lW⟩⟩
  clear lW
  exact own_bytes hown5

theorem nmom_any {s a : Int} {u : Value} (hs : IsW s u) (ha : I64 a) (h1 : inW (s * 1000000000000000000) = true) (h2 : inW (s * 1000000000000000000 + a) = true) {w : World} : Calls Try.prog 39 #[u, .int .i64 a] w fun e w' => ∃ r, e = .returned r ∧ IsW (s * 1000000000000000000 + a) r ∧ Below w.heap.size w w' := by
  obtain ⟨_, _, rfl, hs⟩ := hs
  obtain ⟨a0, a1⟩ := ha
  obtain ⟨f1, -⟩ := pv_yes h1
  obtain ⟨f2, -⟩ := pv_yes h2
  refine calls_Wp (args := [_, _]) (n := 21) Try.func39 rfl rfl (by simp) ?_
  refine Wp.seq ?_
  refine wR [0, 1] ?_
  refine sE (fun bk1 w1 kb1 lw1 => ?_)
  refine sO (fun bk2 w2 kb2 lw2 => ?_)
  refine vOrd_nil ?_
  refine Wp.seq ?_
  refine wD [0, 6, 1, 2, 3, 4, 5, 7, 8] [66, 63, 0, 0, 0, 111, 223, 0, 0] (fun | 1 => fun v _ => IsW 1000000000000000000 v | 2 => fun v _ => ∃ q, v = .tuple #[q, .int .i64 (fitE (s * 1000000000000000000))] ∧ IsW (fitV (s * 1000000000000000000)) q | _ => fun _ _ => True) (fun _ _ => ?_)
  refine sL ?_
  refine sO (fun bk3 w3 kb3 lw3 => ?_)
  refine s_callD rfl rfl rfl (by kernel_rfl) rfl (fun wc lc => c_wof 1000000000000000000 (by decide) (by decide) wc) ?_
  rintro v w4 u4 hsec lw4 mw4
  refine sD (fun wc lc => c_wmul ⟨_, _, rfl, hs⟩ hsec wc) ?_
  rintro v w5 u5 ⟨mu, rfl, mh, ml, rfl, hm⟩ lw5 mw5
  rw [f1] at hm
  refine sQ 3 ?_
  refine sS (fun w6 sw6 vw6 => ?_)
  refine sZ 1 ?_
  refine Wp.seq ?_
  refine wD [0, 1, 2, 3, 4, 5, 6, 7] [6, 0, 0, 0, 0, 95, 191, 0] (fun | 2 => fun v _ => IsW a v | 3 => fun v _ => ∃ q, v = .tuple #[q, .int .i64 (fitE (s * 1000000000000000000 + a))] ∧ IsW (fitV (s * 1000000000000000000 + a)) q | _ => fun _ _ => True) (fun _ _ => ?_)
  refine sQ 2 ?_
  refine s_callD rfl rfl rfl (by kernel_rfl) rfl (fun wc lc => c_wof a (by omega) (by omega) wc) ?_
  rintro v w7 u7 haw lw7 mw7
  refine sD (fun wc lc => c_wadd ⟨_, _, rfl, hm⟩ haw wc) ?_
  rintro v w8 u8 ⟨tu, rfl, th, tl, rfl, ht⟩ lw8 mw8
  rw [f2] at ht
  refine sQ 3 ?_
  refine sS (fun w9 sw9 vw9 => ?_)
  refine vOrd_nil ?_
  refine qQ 1 ?_
  refine sS (fun w10 sw10 vw10 => ?_)
  refine vOrd_nil ?_
  refine Wp.ret ⟨.inr rfl, fun lW => ⟨_, res_cell rfl rfl rfl rfl, _, rfl, ?_, lW⟩⟩
  clear lW
  exact ⟨_, _, rfl, ht⟩

theorem nenc_any {b n : Int} {u : Value} (hb : I64 b) (hn : IsW n u) {w : World} : Calls Try.prog 7 #[.int .i64 b, u] w fun e w' => ∃ r, e = .returned r ∧ (∃ s, r = .tuple #[s, .int .i64 (ntE b n)] ∧ BytesAt w' s (ntL b n)) ∧ Below w.heap.size w w' := by
  obtain ⟨_, _, rfl, hn⟩ := hn
  have hb' := hb
  obtain ⟨b0, b1⟩ := hb'
  cases hN : isN b with
  | false =>
    obtain ⟨e1, e2⟩ := nt_arg (n := n) hN
    rw [e1, e2]
    have hz := nh_no hN
    refine calls_Wp (args := [_, _]) (n := 63) Try.func7 rfl rfl (by simp) ?_
    refine Wp.seq ?_
    refine wR [0, 1, 2] ?_
    refine sE (fun bk1 w1 kb1 lw1 => ?_)
    refine sZ 2 ?_
    refine qQ 1 ?_
    refine sT (nhalf_any hb (w := _)) ?_
    rintro v w2 rfl lw2
    rw [hz]
    refine sZ 1 ?_
    refine Wp.seq ?_
    refine qQ 1 ?_
    refine t_eql rfl rfl rfl rfl rfl (by omega) ?_
    refine vOrd_nil ?_
    refine Wp.condT rfl rfl ?_
    refine qZ ?_
    refine Wp.ret ⟨.inr rfl, fun lW => ⟨_, ⟨_, _, res_tmp (P := Try.prog) rfl rfl, res_tmp (P := Try.prog) rfl rfl, rfl⟩, _, rfl, ?_, lW⟩⟩
    clear lW
    exact ⟨_, rfl, .inr ⟨rfl, rfl⟩⟩
  | true =>
    have hk := ntK_cases hN
    have hz := nh_yes hN
    obtain ⟨k, hkk⟩ : ∃ k, ntK b = k := ⟨_, rfl⟩
    rw [hkk] at hk hz
    have q0 := Int.emod_nonneg n (show (1000000000000000000 : Int) ≠ 0 by decide)
    have q1 := Int.emod_lt_of_pos n (show (0 : Int) < 1000000000000000000 by decide)
    have hP := oP_pos k
    have s0 := Int.emod_nonneg (n / 1000000000000000000) (show oP k ≠ 0 by omega)
    have s1 := Int.emod_lt_of_pos (n / 1000000000000000000) hP
    have c0 := fc_low (k := k) q0
    have c1 := fc_top (k := k) q1
    have iv := (int_yes (z := n % 1000000000000000000) (inI_iff.2 (by omega))).1
    obtain ⟨x1, x2⟩ := fc_ok (a := n % 1000000000000000000) (o := (k : Int)) (by omega)
    rw [Int.toNat_natCast] at x2
    obtain ⟨-, y2⟩ := pf_ok (m := n / 1000000000000000000) hP
    by_cases hO : b = 128 ∧ inI (n / 1000000000000000000) = false
    · obtain ⟨e1, e2⟩ := nt_over hN hO
      rw [e1, e2]
      have ie := (int_bad hO.2).2
      refine calls_Wp (args := [_, _]) (n := 63) Try.func7 rfl rfl (by simp) ?_
      refine Wp.seq ?_
      refine wR [0, 1, 2] ?_
      refine sE (fun bk1 w1 kb1 lw1 => ?_)
      refine sZ 2 ?_
      refine qQ 1 ?_
      refine sT (nhalf_any hb (w := _)) ?_
      rintro v w2 rfl lw2
      rw [hz]
      refine sZ 1 ?_
      refine Wp.seq ?_
      refine qQ 1 ?_
      refine f_eql rfl rfl rfl rfl rfl (by omega) ?_
      refine vOrd_nil ?_
      refine Wp.condF rfl rfl ?_
      refine Wp.skip ?_
      refine Wp.seq ?_
      refine wD [0, 7, 8, 1, 2, 3, 4, 5, 6, 9, 10, 11] [386, 383, 255, 0, 0, 0, 495, 991, 1983, 0, 0, 0] (fun | 1 => fun v _ => IsW 1000000000000000000 v | 2 => fun v _ => ∃ q p, v = .tuple #[q, p, .int .i64 0] ∧ IsW (n / 1000000000000000000) q ∧ IsW (n % 1000000000000000000) p | _ => fun _ _ => True) (fun _ _ => ?_)
      refine sL ?_
      refine sO (fun bk3 w3 kb3 lw3 => ?_)
      refine sO (fun bk4 w4 kb4 lw4 => ?_)
      refine s_callD rfl rfl rfl (by kernel_rfl) rfl (fun wc lc => c_wof 1000000000000000000 (by decide) (by decide) wc) ?_
      rintro v w5 u5 hsec lw5 mw5
      refine s_callD rfl rfl rfl (by kernel_rfl) rfl (fun wc lc => c_wdiv ⟨_, _, rfl, hn⟩ hsec (by decide) wc) ?_
      rintro v w6 u6 ⟨qu, ru, rfl, ⟨qh, ql, rfl, hq⟩, rh, rl, rfl, hr⟩ lw6 mw6
      refine sQ 4 ?_
      refine sS (fun w7 sw7 vw7 => ?_)
      refine sS (fun w8 sw8 vw8 => ?_)
      refine sZ 1 ?_
      refine Wp.seq ?_
      refine qQ 1 ?_
      refine sT (c_wint ⟨_, _, rfl, hq⟩ _) ?_
      rintro v w9 rfl lw9
      rw [ie]
      refine sZ 5 ?_
      refine qQ 1 ?_
      refine t_neq rfl rfl rfl rfl rfl (by omega) ?_
      refine sQ 2 ?_
      refine t_eql rfl rfl rfl rfl rfl (by omega) ?_
      refine sZ 1 ?_
      refine Wp.condT rfl rfl ?_
      refine qZ ?_
      refine Wp.ret ⟨.inr rfl, fun lW => ⟨_, ⟨_, _, res_tmp (P := Try.prog) rfl rfl, res_tmp (P := Try.prog) rfl rfl, rfl⟩, _, rfl, ?_, lW⟩⟩
      clear lW
      exact ⟨_, rfl, .inr ⟨rfl, rfl⟩⟩
    · obtain ⟨e1, e2⟩ := nt_ok hN hO
      rw [e1, e2]
      cases hI : inI (n / 1000000000000000000) with
      | false =>
        have ie := (int_bad hI).2
        have h128 : ¬ b = 128 := fun q => hO ⟨q, hI⟩
        refine calls_Wp (args := [_, _]) (n := 63) Try.func7 rfl rfl (by simp) ?_
        refine Wp.seq ?_
        refine wR [0, 1, 2] ?_
        refine sE (fun bk1 w1 kb1 lw1 => ?_)
        refine sZ 2 ?_
        refine qQ 1 ?_
        refine sT (nhalf_any hb (w := _)) ?_
        rintro v w2 rfl lw2
        rw [hz]
        refine sZ 1 ?_
        refine Wp.seq ?_
        refine qQ 1 ?_
        refine f_eql rfl rfl rfl rfl rfl (by omega) ?_
        refine vOrd_nil ?_
        refine Wp.condF rfl rfl ?_
        refine Wp.skip ?_
        refine Wp.seq ?_
        refine wD [0, 7, 8, 1, 2, 3, 4, 5, 6, 9, 10, 11] [386, 383, 255, 0, 0, 0, 495, 991, 1983, 0, 0, 0] (fun | 1 => fun v _ => IsW 1000000000000000000 v | 2 => fun v _ => ∃ q p, v = .tuple #[q, p, .int .i64 0] ∧ IsW (n / 1000000000000000000) q ∧ IsW (n % 1000000000000000000) p | _ => fun _ _ => True) (fun _ _ => ?_)
        refine sL ?_
        refine sO (fun bk3 w3 kb3 lw3 => ?_)
        refine sO (fun bk4 w4 kb4 lw4 => ?_)
        refine s_callD rfl rfl rfl (by kernel_rfl) rfl (fun wc lc => c_wof 1000000000000000000 (by decide) (by decide) wc) ?_
        rintro v w5 u5 hsec lw5 mw5
        refine s_callD rfl rfl rfl (by kernel_rfl) rfl (fun wc lc => c_wdiv ⟨_, _, rfl, hn⟩ hsec (by decide) wc) ?_
        rintro v w6 u6 ⟨qu, ru, rfl, ⟨qh, ql, rfl, hq⟩, rh, rl, rfl, hr⟩ lw6 mw6
        refine sQ 4 ?_
        refine sS (fun w7 sw7 vw7 => ?_)
        refine sS (fun w8 sw8 vw8 => ?_)
        refine sZ 1 ?_
        refine Wp.seq ?_
        refine qQ 1 ?_
        refine sT (c_wint ⟨_, _, rfl, hq⟩ _) ?_
        rintro v w9 rfl lw9
        rw [ie]
        refine sZ 5 ?_
        refine qQ 1 ?_
        refine t_neq rfl rfl rfl rfl rfl (by omega) ?_
        refine sQ 2 ?_
        refine f_eql rfl rfl rfl rfl rfl (by omega) ?_
        refine sZ 1 ?_
        refine Wp.condF rfl rfl ?_
        refine Wp.skip ?_
        refine Wp.seq ?_
        refine wD [0, 1, 7, 2, 3, 4, 5, 6, 8, 9] [134, 129, 127, 0, 0, 0, 223, 447, 0, 0] (fun | 2 => fun v _ => IsW (oP k) v | 3 => fun v _ => ∃ q, v = .tuple #[q, .int .i64 (pfE (oP k))] ∧ IsW (pfZ (n / 1000000000000000000) (oP k)) q | _ => fun _ _ => True) (fun _ _ => ?_)
        refine sQ 2 ?_
        refine sO (fun bk10 w10 kb10 lw10 => ?_)
        refine s_callD rfl rfl rfl (by kernel_rfl) rfl (fun wc lc => nera_any k rfl (by omega) (w := wc)) ?_
        rintro v w11 u11 he lw11 mw11
        refine sD (fun wc lc => pfold_any ⟨_, _, rfl, hq⟩ he (w := wc)) ?_
        rintro v w12 u12 ⟨fu, rfl, fh, fl, rfl, hf⟩ lw12 mw12
        rw [y2] at hf
        refine sQ 3 ?_
        refine sS (fun w13 sw13 vw13 => ?_)
        refine sZ 1 ?_
        refine qQ 1 ?_
        refine sT (c_wint ⟨_, _, rfl, hr⟩ _) ?_
        rintro v w14 rfl lw14
        rw [iv]
        refine sZ 5 ?_
        refine qQ 2 ?_
        refine sT (fenc_any (a := n % 1000000000000000000) (o := (k : Int)) ⟨by omega, by omega⟩ ⟨by omega, by omega⟩ (w := _)) ?_
        rintro v w15 ⟨cu, rfl, ch, cl, rfl, hc⟩ lw15
        rw [x2] at hc
        refine sQ 3 ?_
        refine sO (fun bk16 w16 kb16 lw16 => ?_)
        refine sS (fun w17 sw17 vw17 => ?_)
        refine sZ 1 ?_
        refine qQ 3 ?_
        refine s_callT rfl rfl rfl (by kernel_rfl) rfl (nboth_any k rfl (by omega) ⟨_, _, rfl, hf⟩ ⟨_, _, rfl, hc⟩ ⟨s0, s1⟩ ⟨c0, c1⟩ (w := _)) ?_
        rintro v w18 hbb lw18
        rw [octL_mod] at hbb
        refine sZ 2 ?_
        refine Wp.ret ⟨.inr rfl, fun lW => ⟨_, ⟨_, _, res_tmp (P := Try.prog) rfl rfl, res_tmp (P := Try.prog) rfl rfl, rfl⟩, _, rfl, ?_, lW⟩⟩
        clear lW
        unfold ntO
        rw [hkk]
        exact ⟨_, rfl, hbb⟩
      | true =>
        have ie := (int_yes hI).2
        refine calls_Wp (args := [_, _]) (n := 63) Try.func7 rfl rfl (by simp) ?_
        refine Wp.seq ?_
        refine wR [0, 1, 2] ?_
        refine sE (fun bk1 w1 kb1 lw1 => ?_)
        refine sZ 2 ?_
        refine qQ 1 ?_
        refine sT (nhalf_any hb (w := _)) ?_
        rintro v w2 rfl lw2
        rw [hz]
        refine sZ 1 ?_
        refine Wp.seq ?_
        refine qQ 1 ?_
        refine f_eql rfl rfl rfl rfl rfl (by omega) ?_
        refine vOrd_nil ?_
        refine Wp.condF rfl rfl ?_
        refine Wp.skip ?_
        refine Wp.seq ?_
        refine wD [0, 7, 8, 1, 2, 3, 4, 5, 6, 9, 10, 11] [386, 383, 255, 0, 0, 0, 495, 991, 1983, 0, 0, 0] (fun | 1 => fun v _ => IsW 1000000000000000000 v | 2 => fun v _ => ∃ q p, v = .tuple #[q, p, .int .i64 0] ∧ IsW (n / 1000000000000000000) q ∧ IsW (n % 1000000000000000000) p | _ => fun _ _ => True) (fun _ _ => ?_)
        refine sL ?_
        refine sO (fun bk3 w3 kb3 lw3 => ?_)
        refine sO (fun bk4 w4 kb4 lw4 => ?_)
        refine s_callD rfl rfl rfl (by kernel_rfl) rfl (fun wc lc => c_wof 1000000000000000000 (by decide) (by decide) wc) ?_
        rintro v w5 u5 hsec lw5 mw5
        refine s_callD rfl rfl rfl (by kernel_rfl) rfl (fun wc lc => c_wdiv ⟨_, _, rfl, hn⟩ hsec (by decide) wc) ?_
        rintro v w6 u6 ⟨qu, ru, rfl, ⟨qh, ql, rfl, hq⟩, rh, rl, rfl, hr⟩ lw6 mw6
        refine sQ 4 ?_
        refine sS (fun w7 sw7 vw7 => ?_)
        refine sS (fun w8 sw8 vw8 => ?_)
        refine sZ 1 ?_
        refine Wp.seq ?_
        refine qQ 1 ?_
        refine sT (c_wint ⟨_, _, rfl, hq⟩ _) ?_
        rintro v w9 rfl lw9
        rw [ie]
        refine sZ 5 ?_
        refine qQ 1 ?_
        refine f_neq rfl rfl rfl rfl rfl (by omega) ?_
        refine sZ 4 ?_
        refine Wp.condF rfl rfl ?_
        refine Wp.skip ?_
        refine Wp.seq ?_
        refine wD [0, 1, 7, 2, 3, 4, 5, 6, 8, 9] [134, 129, 127, 0, 0, 0, 223, 447, 0, 0] (fun | 2 => fun v _ => IsW (oP k) v | 3 => fun v _ => ∃ q, v = .tuple #[q, .int .i64 (pfE (oP k))] ∧ IsW (pfZ (n / 1000000000000000000) (oP k)) q | _ => fun _ _ => True) (fun _ _ => ?_)
        refine sQ 2 ?_
        refine sO (fun bk10 w10 kb10 lw10 => ?_)
        refine s_callD rfl rfl rfl (by kernel_rfl) rfl (fun wc lc => nera_any k rfl (by omega) (w := wc)) ?_
        rintro v w11 u11 he lw11 mw11
        refine sD (fun wc lc => pfold_any ⟨_, _, rfl, hq⟩ he (w := wc)) ?_
        rintro v w12 u12 ⟨fu, rfl, fh, fl, rfl, hf⟩ lw12 mw12
        rw [y2] at hf
        refine sQ 3 ?_
        refine sS (fun w13 sw13 vw13 => ?_)
        refine sZ 1 ?_
        refine qQ 1 ?_
        refine sT (c_wint ⟨_, _, rfl, hr⟩ _) ?_
        rintro v w14 rfl lw14
        rw [iv]
        refine sZ 5 ?_
        refine qQ 2 ?_
        refine sT (fenc_any (a := n % 1000000000000000000) (o := (k : Int)) ⟨by omega, by omega⟩ ⟨by omega, by omega⟩ (w := _)) ?_
        rintro v w15 ⟨cu, rfl, ch, cl, rfl, hc⟩ lw15
        rw [x2] at hc
        refine sQ 3 ?_
        refine sO (fun bk16 w16 kb16 lw16 => ?_)
        refine sS (fun w17 sw17 vw17 => ?_)
        refine sZ 1 ?_
        refine qQ 3 ?_
        refine s_callT rfl rfl rfl (by kernel_rfl) rfl (nboth_any k rfl (by omega) ⟨_, _, rfl, hf⟩ ⟨_, _, rfl, hc⟩ ⟨s0, s1⟩ ⟨c0, c1⟩ (w := _)) ?_
        rintro v w18 hbb lw18
        rw [octL_mod] at hbb
        refine sZ 2 ?_
        refine Wp.ret ⟨.inr rfl, fun lW => ⟨_, ⟨_, _, res_tmp (P := Try.prog) rfl rfl, res_tmp (P := Try.prog) rfl rfl, rfl⟩, _, rfl, ?_, lW⟩⟩
        clear lW
        unfold ntO
        rw [hkk]
        exact ⟨_, rfl, hbb⟩

set_option maxHeartbeats 1000000 in
theorem ndec_any {b p : Int} {l : List UInt8} {v x : Value} {w : World} (hb : I64 b) (hv : BytesAt w v l) (hl : l.length ≤ 9223372036854775807) (hp : IsW p x) : Calls Try.prog 12 #[.int .i64 b, v, x] w fun e w' => ∃ r, e = .returned r ∧ (∃ s, r = .tuple #[s, .int .i64 (ndE b l p)] ∧ IsW (ndZ b l p) s) ∧ Below w.heap.size w w' := by
  obtain ⟨_, _, rfl, hp⟩ := hp
  obtain ⟨va, vc, rfl⟩ := hv.slice
  have hb' := hb
  obtain ⟨b0, b1⟩ := hb'
  cases hN : isN b with
  | false =>
    obtain ⟨e1, e2⟩ := nd_arg (l := l) (p := p) hN
    rw [e1, e2]
    have hz := nh_no hN
    refine calls_Wp (args := [_, _, _]) (n := 75) Try.func12 rfl rfl (by simp) ?_
    refine Wp.seq ?_
    refine wR [0, 1, 2] ?_
    refine sE (fun bk1 w1 kb1 lw1 => ?_)
    refine sO (fun bk2 w2 kb2 lw2 => ?_)
    refine sZ 1 ?_
    refine qQ 1 ?_
    refine sT (nhalf_any hb (w := _)) ?_
    rintro v w3 rfl lw3
    rw [hz]
    refine sZ 1 ?_
    refine Wp.seq ?_
    refine qQ 1 ?_
    refine t_eql rfl rfl rfl rfl rfl (by omega) ?_
    refine vOrd_nil ?_
    refine Wp.condT rfl rfl ?_
    refine Wp.seq ?_
    refine wR [0, 1, 2] ?_
    refine s_build rfl rfl rfl rfl rfl rfl ?_
    refine sS (fun w5 sw5 vw5 => ?_)
    refine sZ 1 ?_
    refine Wp.ret ⟨.inr rfl, fun lW => ⟨_, ⟨_, _, res_cell rfl rfl rfl rfl, res_tmp (P := Try.prog) rfl rfl, rfl⟩, _, rfl, ?_, lW⟩⟩
    clear lW
    exact ⟨_, rfl, _, _, rfl, (by unfold WideIs; omega)⟩
  | true =>
    have hk := ntK_cases hN
    have hz := nh_yes hN
    obtain ⟨k, hkk⟩ : ∃ k, ntK b = k := ⟨_, rfl⟩
    rw [hkk] at hk hz
    by_cases hlen : l.length = 2 * k
    case neg =>
      obtain ⟨e1, e2⟩ := nd_form (p := p) hN (l := l) (by rw [hkk]; exact hlen)
      rw [e1, e2]
      refine calls_Wp (args := [_, _, _]) (n := 75) Try.func12 rfl rfl (by simp) ?_
      refine Wp.seq ?_
      refine wR [0, 1, 2] ?_
      refine sE (fun bk1 w1 kb1 lw1 => ?_)
      refine sO (fun bk2 w2 kb2 lw2 => ?_)
      refine sZ 1 ?_
      refine qQ 1 ?_
      refine sT (nhalf_any hb (w := _)) ?_
      rintro v w3 rfl lw3
      rw [hz]
      refine sZ 1 ?_
      refine Wp.seq ?_
      refine qQ 1 ?_
      refine f_eql rfl rfl rfl rfl rfl (by omega) ?_
      refine vOrd_nil ?_
      refine Wp.condF rfl rfl ?_
      refine Wp.skip ?_
      refine Wp.seq ?_
      refine qQ 1 ?_
      refine x_len rfl rfl rfl rfl rfl ?_
      refine sM ?_
      refine a_mul (-9223372036854775808) 9223372036854775807 (by decide) rfl rfl rfl rfl rfl (by omega) (by omega) ?_
      refine t_neq rfl rfl rfl rfl rfl (by omega) ?_
      refine vOrd_nil ?_
      refine Wp.condT rfl rfl ?_
      refine Wp.seq ?_
      refine wR [0, 1, 2] ?_
      refine s_build rfl rfl rfl rfl rfl rfl ?_
      refine sS (fun w5 sw5 vw5 => ?_)
      refine sZ 1 ?_
      refine Wp.ret ⟨.inr rfl, fun lW => ⟨_, ⟨_, _, res_cell rfl rfl rfl rfl, res_tmp (P := Try.prog) rfl rfl, rfl⟩, _, rfl, ?_, lW⟩⟩
      clear lW
      exact ⟨_, rfl, _, _, rfl, (by unfold WideIs; omega)⟩

    have hP := oP_pos k
    have nt := numL_in (l.take k)
    rw [List.length_take, Nat.min_eq_left (by omega)] at nt
    have nd := numL_in (l.drop k)
    rw [List.length_drop, show l.length - k = k by omega] at nd
    have gt := (fg_ok (l := l.take k) (by rw [List.length_take]; omega)).2
    have gd := (fg_ok (l := l.drop k) (by rw [List.length_drop]; omega)).2
    have hin : (0 ≤ (k : Int) ∧ (k : Int) ≤ 10) ∧ 0 ≤ numL (l.drop k) ∧ numL (l.drop k) < oP (k : Int).toNat := by
      rw [Int.toNat_natCast]; exact ⟨by omega, nd⟩
    cases hls : lsB (numL (l.drop k)) k with
    | false =>
      obtain ⟨e1, e2⟩ := nd_fine (p := p) hN (l := l) (by rw [hkk]; exact hlen) (by rw [hkk]; exact hls)
      obtain ⟨d1, d2⟩ := fd_fine hin (by rw [Int.toNat_natCast]; exact hls)
      rw [e1, e2]
      refine calls_Wp (args := [_, _, _]) (n := 75) Try.func12 rfl rfl (by simp) ?_
      refine Wp.seq ?_
      refine wR [0, 1, 2] ?_
      refine sE (fun bk1 w1 kb1 lw1 => ?_)
      refine sO (fun bk2 w2 kb2 lw2 => ?_)
      refine sZ 1 ?_
      refine qQ 1 ?_
      refine sT (nhalf_any hb (w := _)) ?_
      rintro v w3 rfl lw3
      rw [hz]
      refine sZ 1 ?_
      refine Wp.seq ?_
      refine qQ 1 ?_
      refine f_eql rfl rfl rfl rfl rfl (by omega) ?_
      refine vOrd_nil ?_
      refine Wp.condF rfl rfl ?_
      refine Wp.skip ?_
      refine Wp.seq ?_
      refine qQ 1 ?_
      refine x_len rfl rfl rfl rfl rfl ?_
      refine sM ?_
      refine a_mul (-9223372036854775808) 9223372036854775807 (by decide) rfl rfl rfl rfl rfl (by omega) (by omega) ?_
      refine f_neq rfl rfl rfl rfl rfl (by omega) ?_
      refine vOrd_nil ?_
      refine Wp.condF rfl rfl ?_
      refine Wp.skip ?_
      refine Wp.seq ?_
      refine Wp.old (fun lq => ?_)
      have hvw := hv.later lq
      refine wQ 2 ?_
      refine x_toB (l := l) rfl rfl rfl rfl hvw rfl rfl rfl (by omega) (by omega) (by omega) ?_
      intro vt hvt
      rw [Int.toNat_natCast] at hvt
      refine s_callT rfl rfl rfl (by kernel_rfl) rfl (fget_any hvt (by rw [List.length_take]; omega)) ?_
      rintro v w7 ⟨fu, rfl, fh, fl, rfl, hf⟩ lw7
      rw [gt] at hf
      refine sQ 3 ?_
      refine sO (fun bk8 w8 kb8 lw8 => ?_)
      refine sS (fun w9 sw9 vw9 => ?_)
      refine sZ 1 ?_
      refine Wp.seq ?_
      refine Wp.old (fun lq2 => ?_)
      have hvw2 := hv.later lq2
      refine wQ 2 ?_
      refine x_fromB (l := l) rfl rfl rfl rfl hvw2 rfl rfl rfl (by omega) (by omega) ?_
      intro vd hvd
      rw [Int.toNat_natCast] at hvd
      refine s_callT rfl rfl rfl (by kernel_rfl) rfl (fget_any hvd (by rw [List.length_drop]; omega)) ?_
      rintro v w13 ⟨cu, rfl, ch, cl, rfl, hc⟩ lw13
      rw [gd] at hc
      refine sQ 3 ?_
      refine sO (fun bk14 w14 kb14 lw14 => ?_)
      refine sS (fun w15 sw15 vw15 => ?_)
      refine sZ 1 ?_
      refine qQ 2 ?_
      refine sT (fdec_any ⟨_, _, rfl, hc⟩ (o := (k : Int)) ⟨by omega, by omega⟩ (w := _)) ?_
      rintro v w16 rfl lw16
      rw [d1, d2]
      refine sZ 5 ?_
      refine Wp.seq ?_
      refine qQ 1 ?_
      refine t_neq rfl rfl rfl rfl rfl (by omega) ?_
      refine vOrd_nil ?_
      refine Wp.condT rfl rfl ?_
      refine Wp.seq ?_
      refine wR [0, 1, 2, 3] ?_
      refine s_build rfl rfl rfl rfl rfl rfl ?_
      refine sM ?_
      refine sS (fun w18 sw18 vw18 => ?_)
      refine sZ 1 ?_
      refine Wp.ret ⟨.inr rfl, fun lW => ⟨_, ⟨_, _, res_cell rfl rfl rfl rfl, res_tmp (P := Try.prog) rfl rfl, rfl⟩, _, rfl, ?_, lW⟩⟩
      clear lW
      exact ⟨_, rfl, _, _, rfl, (by unfold WideIs; omega)⟩
    | true =>
      obtain ⟨d1, d2⟩ := fd_ok hin (by rw [Int.toNat_natCast]; exact hls)
      rw [Int.toNat_natCast] at d2
      have hli := ls_in hls nd
      by_cases h128 : b = 128
      · obtain rfl : k = 8 := by omega
        subst h128
        obtain ⟨e1, e2⟩ := nd_whole (l := l) (p := p) hlen hls
        have hps := pn_sgn nt
        have hsi := inI_iff.1 (sgn_in nt).1
        have iw1 : inW (sgnO (numL (l.take 8)) * 1000000000000000000) = true := by unfold inW; rw [decide_eq_true_iff]; omega
        have iw2 : inW (sgnO (numL (l.take 8)) * 1000000000000000000 + flI (numL (l.drop 8)) 8) = true := by unfold inW; rw [decide_eq_true_iff]; omega
        rw [e1, e2]
        refine calls_Wp (args := [_, _, _]) (n := 75) Try.func12 rfl rfl (by simp) ?_
        refine Wp.seq ?_
        refine wR [0, 1, 2] ?_
        refine sE (fun bk1 w1 kb1 lw1 => ?_)
        refine sO (fun bk2 w2 kb2 lw2 => ?_)
        refine sZ 1 ?_
        refine qQ 1 ?_
        refine sT (nhalf_any hb (w := _)) ?_
        rintro v w3 rfl lw3
        rw [hz]
        refine sZ 1 ?_
        refine Wp.seq ?_
        refine qQ 1 ?_
        refine f_eql rfl rfl rfl rfl rfl (by omega) ?_
        refine vOrd_nil ?_
        refine Wp.condF rfl rfl ?_
        refine Wp.skip ?_
        refine Wp.seq ?_
        refine qQ 1 ?_
        refine x_len rfl rfl rfl rfl rfl ?_
        refine sM ?_
        refine a_mul (-9223372036854775808) 9223372036854775807 (by decide) rfl rfl rfl rfl rfl (by omega) (by omega) ?_
        refine f_neq rfl rfl rfl rfl rfl (by omega) ?_
        refine vOrd_nil ?_
        refine Wp.condF rfl rfl ?_
        refine Wp.skip ?_
        refine Wp.seq ?_
        refine Wp.old (fun lq => ?_)
        have hvw := hv.later lq
        refine wQ 2 ?_
        refine x_toB (l := l) rfl rfl rfl rfl hvw rfl rfl rfl (by omega) (by omega) (by omega) ?_
        intro vt hvt
        rw [Int.toNat_natCast] at hvt
        refine s_callT rfl rfl rfl (by kernel_rfl) rfl (fget_any hvt (by rw [List.length_take]; omega)) ?_
        rintro v w7 ⟨fu, rfl, fh, fl, rfl, hf⟩ lw7
        rw [gt] at hf
        refine sQ 3 ?_
        refine sO (fun bk8 w8 kb8 lw8 => ?_)
        refine sS (fun w9 sw9 vw9 => ?_)
        refine sZ 1 ?_
        refine Wp.seq ?_
        refine Wp.old (fun lq2 => ?_)
        have hvw2 := hv.later lq2
        refine wQ 2 ?_
        refine x_fromB (l := l) rfl rfl rfl rfl hvw2 rfl rfl rfl (by omega) (by omega) ?_
        intro vd hvd
        rw [Int.toNat_natCast] at hvd
        refine s_callT rfl rfl rfl (by kernel_rfl) rfl (fget_any hvd (by rw [List.length_drop]; omega)) ?_
        rintro v w13 ⟨cu, rfl, ch, cl, rfl, hc⟩ lw13
        rw [gd] at hc
        refine sQ 3 ?_
        refine sO (fun bk14 w14 kb14 lw14 => ?_)
        refine sS (fun w15 sw15 vw15 => ?_)
        refine sZ 1 ?_
        refine qQ 2 ?_
        refine sT (fdec_any ⟨_, _, rfl, hc⟩ (o := ((8 : Nat) : Int)) ⟨by omega, by omega⟩ (w := _)) ?_
        rintro v w16 rfl lw16
        rw [d1, d2]
        refine sZ 5 ?_
        refine Wp.seq ?_
        refine qQ 1 ?_
        refine f_neq rfl rfl rfl rfl rfl (by omega) ?_
        refine vOrd_nil ?_
        refine Wp.condF rfl rfl ?_
        refine Wp.skip ?_
        refine Wp.seq ?_
        refine qQ 1 ?_
        refine t_eql rfl rfl rfl rfl rfl (by omega) ?_
        refine vOrd_nil ?_
        refine Wp.condT rfl rfl ?_
        refine Wp.seq ?_
        refine wD [0, 1, 8, 2, 3, 4, 5, 6, 7, 9, 10] [270, 257, 255, 0, 0, 0, 0, 447, 895, 0, 0] (fun | 2 => fun v _ => IsW (oP 8) v | 3 => fun v _ => IsW 0 v | 4 => fun v _ => ∃ q, v = .tuple #[q, .int .i64 (pnE (numL (l.take 8)) (oP 8) 0)] ∧ IsW (pnZ (numL (l.take 8)) (oP 8) 0) q | _ => fun _ _ => True) (fun _ _ => ?_)
        refine sQ 2 ?_
        refine sO (fun bk17 w17 kb17 lw17 => ?_)
        refine s_callD rfl rfl rfl (by kernel_rfl) rfl (fun wc lc => nera_any 8 rfl (by decide) (w := wc)) ?_
        rintro v w18 u18 he lw18 mw18
        refine s_callD rfl rfl rfl (by kernel_rfl) rfl (fun wc lc => c_wof 0 (by decide) (by decide) wc) ?_
        rintro v w19 u19 h0 lw19 mw19
        refine sD (fun wc lc => pnear_any ⟨_, _, rfl, hf⟩ he h0 (w := wc)) ?_
        rintro v w20 u20 ⟨su, rfl, sh, sl, rfl, hs⟩ lw20 mw20
        rw [hps] at hs
        refine sQ 3 ?_
        refine sS (fun w21 sw21 vw21 => ?_)
        refine sZ 1 ?_
        refine qQ 2 ?_
        refine sT (nmom_any ⟨_, _, rfl, hs⟩ ⟨by omega, by omega⟩ iw1 iw2 (w := _)) ?_
        rintro v w22 ⟨mh, ml, rfl, hm⟩ lw22
        refine sS (fun w23 sw23 vw23 => ?_)
        refine sZ 1 ?_
        refine Wp.ret ⟨.inr rfl, fun lW => ⟨_, ⟨_, _, res_cell rfl rfl rfl rfl, res_tmp (P := Try.prog) rfl rfl, rfl⟩, _, rfl, ?_, lW⟩⟩
        clear lW
        exact ⟨_, rfl, _, _, rfl, hm⟩
      · obtain ⟨e1, e2⟩ := nd_era (p := p) hN h128 (l := l) (by rw [hkk]; exact hlen) (by rw [hkk]; exact hls)
        rw [hkk] at e1 e2
        rw [e1, e2]
        have hP4 := oP_mono (i := k) (j := 4) (by omega)
        have e4 : oP 4 = 4294967296 := by decide +kernel
        have iw1 : inW (numL (l.take k) * 1000000000000000000) = true := by unfold inW; rw [decide_eq_true_iff]; omega
        have iw2 : inW (numL (l.take k) * 1000000000000000000 + flI (numL (l.drop k)) k) = true := by unfold inW; rw [decide_eq_true_iff]; omega
        have iw3 : inW (oP k * 1000000000000000000) = true := by unfold inW; rw [decide_eq_true_iff]; omega
        have iw4 : inW (oP k * 1000000000000000000 + 0) = true := by rw [Int.add_zero]; exact iw3
        have hF : numL (l.take k) * 1000000000000000000 + flI (numL (l.drop k)) k = ndF l k := rfl
        have hF0 : 0 ≤ ndF l k ∧ ndF l k < oP k * 1000000000000000000 := by rw [← hF]; omega
        obtain ⟨a1, a2⟩ := pn_ab (p := p) (show 0 < oP k * 1000000000000000000 by omega) hF0
        rw [← a1, ← a2]
        refine calls_Wp (args := [_, _, _]) (n := 75) Try.func12 rfl rfl (by simp) ?_
        refine Wp.seq ?_
        refine wR [0, 1, 2] ?_
        refine sE (fun bk1 w1 kb1 lw1 => ?_)
        refine sO (fun bk2 w2 kb2 lw2 => ?_)
        refine sZ 1 ?_
        refine qQ 1 ?_
        refine sT (nhalf_any hb (w := _)) ?_
        rintro v w3 rfl lw3
        rw [hz]
        refine sZ 1 ?_
        refine Wp.seq ?_
        refine qQ 1 ?_
        refine f_eql rfl rfl rfl rfl rfl (by omega) ?_
        refine vOrd_nil ?_
        refine Wp.condF rfl rfl ?_
        refine Wp.skip ?_
        refine Wp.seq ?_
        refine qQ 1 ?_
        refine x_len rfl rfl rfl rfl rfl ?_
        refine sM ?_
        refine a_mul (-9223372036854775808) 9223372036854775807 (by decide) rfl rfl rfl rfl rfl (by omega) (by omega) ?_
        refine f_neq rfl rfl rfl rfl rfl (by omega) ?_
        refine vOrd_nil ?_
        refine Wp.condF rfl rfl ?_
        refine Wp.skip ?_
        refine Wp.seq ?_
        refine Wp.old (fun lq => ?_)
        have hvw := hv.later lq
        refine wQ 2 ?_
        refine x_toB (l := l) rfl rfl rfl rfl hvw rfl rfl rfl (by omega) (by omega) (by omega) ?_
        intro vt hvt
        rw [Int.toNat_natCast] at hvt
        refine s_callT rfl rfl rfl (by kernel_rfl) rfl (fget_any hvt (by rw [List.length_take]; omega)) ?_
        rintro v w7 ⟨fu, rfl, fh, fl, rfl, hf⟩ lw7
        rw [gt] at hf
        refine sQ 3 ?_
        refine sO (fun bk8 w8 kb8 lw8 => ?_)
        refine sS (fun w9 sw9 vw9 => ?_)
        refine sZ 1 ?_
        refine Wp.seq ?_
        refine Wp.old (fun lq2 => ?_)
        have hvw2 := hv.later lq2
        refine wQ 2 ?_
        refine x_fromB (l := l) rfl rfl rfl rfl hvw2 rfl rfl rfl (by omega) (by omega) ?_
        intro vd hvd
        rw [Int.toNat_natCast] at hvd
        refine s_callT rfl rfl rfl (by kernel_rfl) rfl (fget_any hvd (by rw [List.length_drop]; omega)) ?_
        rintro v w13 ⟨cu, rfl, ch, cl, rfl, hc⟩ lw13
        rw [gd] at hc
        refine sQ 3 ?_
        refine sO (fun bk14 w14 kb14 lw14 => ?_)
        refine sS (fun w15 sw15 vw15 => ?_)
        refine sZ 1 ?_
        refine qQ 2 ?_
        refine sT (fdec_any ⟨_, _, rfl, hc⟩ (o := (k : Int)) ⟨by omega, by omega⟩ (w := _)) ?_
        rintro v w16 rfl lw16
        rw [d1, d2]
        refine sZ 5 ?_
        refine Wp.seq ?_
        refine qQ 1 ?_
        refine f_neq rfl rfl rfl rfl rfl (by omega) ?_
        refine vOrd_nil ?_
        refine Wp.condF rfl rfl ?_
        refine Wp.skip ?_
        refine Wp.seq ?_
        refine qQ 1 ?_
        refine f_eql rfl rfl rfl rfl rfl (by omega) ?_
        refine vOrd_nil ?_
        refine Wp.condF rfl rfl ?_
        refine Wp.skip ?_
        refine Wp.seq ?_
        refine wD [0, 1, 3, 6, 2, 4, 5, 7, 8, 9, 10, 11] [74, 73, 71, 63, 0, 0, 0, 0, 767, 0, 0, 0] (fun | 2 => fun v _ => IsW (ndF l k) v | 4 => fun v _ => IsW (oP k) v | 5 => fun v _ => IsW (oP k * 1000000000000000000 + 0) v | 7 => fun v _ => ∃ q, v = .tuple #[q, .int .i64 (pnE (ndF l k) (oP k * 1000000000000000000) p)] ∧ IsW (pnZ (ndF l k) (oP k * 1000000000000000000) p) q | _ => fun _ _ => True) (fun _ _ => ?_)
        refine sQ 4 ?_
        refine sD (fun wc lc => nmom_any ⟨_, _, rfl, hf⟩ ⟨by omega, by omega⟩ iw1 iw2 (w := wc)) ?_
        rintro v w17 u17 hm lw17 mw17
        refine s_callD rfl rfl rfl (by kernel_rfl) rfl (fun wc lc => nera_any k rfl (by omega) (w := wc)) ?_
        rintro v w18 u18 he lw18 mw18
        refine sD (fun wc lc => nmom_any he ⟨by decide, by decide⟩ iw3 iw4 (w := wc)) ?_
        rintro v w19 u19 hE lw19 mw19
        rw [Int.add_zero] at hE
        refine sD (fun wc lc => pnear_any hm hE ⟨_, _, rfl, hp⟩ (w := wc)) ?_
        rintro v w20 u20 ⟨au, rfl, ah, al, rfl, hA⟩ lw20 mw20
        refine sQ 2 ?_
        refine sS (fun w21 sw21 vw21 => ?_)
        refine sZ 1 ?_
        refine Wp.ret ⟨.inr rfl, fun lW => ⟨_, ⟨_, _, res_cell rfl rfl rfl rfl, res_tmp (P := Try.prog) rfl rfl, rfl⟩, _, rfl, ?_, lW⟩⟩
        clear lW
        exact ⟨_, rfl, _, _, rfl, hA⟩

end Go.Proofs.Ytlpenfganhaclaa
