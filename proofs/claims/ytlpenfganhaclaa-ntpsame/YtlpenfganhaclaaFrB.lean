/-
  The program's contracts of layer 19 (P19.1, P19.2): Encode, Decode, Put, Get, and what they stand on: power, holds, from. Of any numbers and any octets.
-/
import Derived.Test.YtlpenfganhaclaaFrD
import Derived.Test.YtlpenfganhaclaaShaL
namespace Go.Proofs.Ytlpenfganhaclaa
open Go.RowKit
set_option maxRecDepth 100000

theorem fr_wcmp {a b : Int} {u v : Value} (hu : IsW a u) (hv : IsW b v) (w : World) : Calls Try.prog 62 #[u, v] w fun e w' => ∃ r, e = .returned r ∧ r = .int .i64 (cmpI a b) ∧ Below w.heap.size w w' := by
  obtain ⟨uh, ul, rfl, hu⟩ := hu
  obtain ⟨vh, vl, rfl, hv⟩ := hv
  refine (wcmp_any hu hv w).mono ?_
  rintro e w' ⟨rfl, hb⟩
  exact ⟨_, rfl, rfl, hb⟩
theorem fr_wmuldiv {a b d : Int} {u v x : Value} (hu : IsW a u) (hv : IsW b v) (hx : IsW d x) (h0 : 0 < d) (w : World) : Calls Try.prog 48 #[u, v, x] w fun e w' => ∃ r, e = .returned r ∧ (∃ q p, r = .tuple #[q, p, .int .i64 (fitE (a * b / d))] ∧ IsW (fitV (a * b / d)) q ∧ IsW (fitR (a * b / d) (a * b % d)) p) ∧ Below w.heap.size w w' := by
  obtain ⟨uh, ul, rfl, hu⟩ := hu
  obtain ⟨vh, vl, rfl, hv⟩ := hv
  obtain ⟨xh, xl, rfl, hx⟩ := hx
  refine (wmuldiv_any hu hv hx h0 w).mono ?_
  rintro e w' ⟨qh, ql, rh, rl, h1, h2, rfl, hb⟩
  exact ⟨_, rfl, ⟨_, _, rfl, ⟨_, _, rfl, h1⟩, ⟨_, _, rfl, h2⟩⟩, hb⟩
theorem fr_fit {z : Int} (h0 : 0 ≤ z) (h1 : z < 170141183460469231731687303715884105728) : inW z = true ∧ fitV z = z ∧ fitE z = 0 := by
  have h : inW z = true := by unfold inW; rw [decide_eq_true_iff]; exact ⟨by omega, h1⟩
  unfold fitV fitE; rw [if_pos h, if_pos h]; exact ⟨h, rfl, rfl⟩
theorem oP_most {k : Nat} (h : k ≤ 15) : oP k ≤ 1329227995784915872903807060280344576 := Int.le_trans (oP_mono h) (by decide +kernel)
theorem oP_low {k : Nat} (h : k ≤ 14) : oP k ≤ 5192296858534827628530496329220096 := Int.le_trans (oP_mono h) (by decide +kernel)
/-- The least attosecond, as the quotient and what is left. -/
theorem fl_whole {f : Int} {k : Nat} (h : f * 1000000000000000000 % oP k = 0) : flI f k = f * 1000000000000000000 / oP k := by
  have hp := oP_pos k
  have h1 := Int.emod_add_mul_ediv (f * 1000000000000000000) (oP k)
  unfold flI
  generalize f * 1000000000000000000 = X at h h1 ⊢
  rw [h, Int.zero_add] at h1
  have h2 : (oP k - 1 + oP k * (X / oP k)) / oP k = (oP k - 1) / oP k + X / oP k := Int.add_mul_ediv_left _ _ (by omega)
  have h3 : (oP k - 1) / oP k = 0 := Int.ediv_eq_zero_of_lt (by omega) (by omega)
  rw [h3, Int.zero_add, h1, Int.add_comm] at h2
  exact h2
theorem fl_left {f : Int} {k : Nat} (h : f * 1000000000000000000 % oP k ≠ 0) : flI f k = f * 1000000000000000000 / oP k + 1 := by
  have hp := oP_pos k
  have h1 := Int.emod_add_mul_ediv (f * 1000000000000000000) (oP k)
  have h3 := Int.emod_nonneg (f * 1000000000000000000) (show oP k ≠ 0 by omega)
  have h4 := Int.emod_lt_of_pos (f * 1000000000000000000) hp
  unfold flI
  generalize f * 1000000000000000000 = X at h h1 h3 h4 ⊢
  have h2 : (X % oP k - 1 + oP k * (X / oP k + 1)) / oP k = (X % oP k - 1) / oP k + (X / oP k + 1) := Int.add_mul_ediv_left _ _ (by omega)
  have h5 : (X % oP k - 1) / oP k = 0 := Int.ediv_eq_zero_of_lt (by omega) (by omega)
  rw [h5, Int.zero_add, Int.mul_add, Int.mul_one] at h2
  generalize oP k * (X / oP k) = Y at h1 h2
  rw [← h2]
  congr 1
  omega
theorem num_take {l : List UInt8} {i : Nat} (h : i ≤ 14) : 0 ≤ numL (l.take i) ∧ numL (l.take i) < 5192296858534827628530496329220096 := by
  obtain ⟨h0, h1⟩ := numL_in (l.take i)
  have h2 := oP_low (k := (l.take i).length) (by rw [List.length_take]; omega)
  exact ⟨h0, by omega⟩
/-- What kind of row lies there. -/
def TyAt (w : World) (c : Nat) (t : TypeId) : Prop := ∃ cs, w.heap[c]? = some (.cells cs t (0, 0))
theorem RowIs.kind {w : World} {c : Nat} {t : TypeId} {cs : List Value} (h : RowIs w c t cs) : TyAt w c t := ⟨_, h⟩
theorem TyAt.lt {w : World} {c : Nat} {t : TypeId} (h : TyAt w c t) : c < w.heap.size := by
  obtain ⟨cs, h⟩ := h
  exact (Array.getElem?_eq_some_iff.1 h).1
theorem TyAt.later {w w' : World} {c : Nat} {t : TypeId} (h : TyAt w c t) (l : Later w w') : TyAt w' c t := by
  have hl := h.lt
  obtain ⟨cs, h⟩ := h
  exact ⟨cs, (l.block c hl).trans h⟩
theorem TyAt.sto {w w' : World} {c b : Nat} {t : TypeId} (h : TyAt w c t) (s : Stored b w w') : TyAt w' c t := by
  obtain ⟨cs, h⟩ := h
  by_cases q : c = b
  · subst q
    exact s.ty _ _ _ h
  · exact ⟨cs, (s.block c q).trans h⟩
theorem TyAt.row {w : World} {c : Nat} {t : TypeId} {cs : List Value} (h : TyAt w c t) (v : Var w c cs) : RowIs w c t cs := by
  obtain ⟨cs', h⟩ := h
  obtain ⟨t', v⟩ := v
  rw [v] at h
  unfold RowIs
  rw [v]
  simp only [Option.some.injEq, Obj.cells.injEq] at h
  rw [h.2.1]
theorem own_base {w : World} {base b : Nat} {e : TypeId} {sz n : Nat} {v : Value} {xs : List Value} (h : w.ownsRow base e sz v n xs) (hb : b ≤ base) : w.ownsRow b e sz v n xs := by
  refine ⟨h.1, ?_⟩
  rcases h.2 with h | ⟨g, cap, cur, h1, h2, h3⟩
  · exact .inl h
  · exact .inr ⟨g, cap, cur, h1, Nat.le_trans hb h2, h3⟩
theorem own_octs {w : World} {base : Nat} {e : TypeId} {v : Value} {n : Nat} {l : List UInt8} (h : w.ownsRow base e 1 v n (bytesV l)) : BytesAt w v l := by
  have hn := h.1
  rw [bytesV_len] at hn
  rcases h.2 with ⟨h1, h2⟩ | ⟨g, cap, cur, h1, h2, h3, h4, h5, h6, h7⟩
  · subst h2; exact .inr ⟨h1, List.eq_nil_of_length_eq_zero (by omega)⟩
  · obtain rfl : n = l.length := by omega
    rw [h1]
    exact row_bytes ⟨e, by simpa using h3⟩ h4 (by simpa using h7)

theorem fpow_any (k : Nat) {o : Int} (ho : (k : Int) = o) (hk : k ≤ 15) {w : World} : Calls Try.prog 50 #[.int .i64 o] w fun e w' => ∃ r, e = .returned r ∧ IsW (oP k) r ∧ Below w.heap.size w w' := by
  refine calls_Wp (args := [_]) (n := 16) Try.func50 rfl rfl (by simp) ?_
  refine Wp.seq ?_
  refine wR [0] ?_
  refine sO (fun bk1 w1 kb1 lw1 => ?_)
  refine vOrd_nil ?_
  refine Wp.seq ?_
  refine wR [0, 1, 2] ?_
  refine s_callT rfl rfl rfl (by kernel_rfl) rfl (c_wof 1 (by decide) (by decide) _) ?_
  rintro v w2 ⟨oh, ol, rfl, h1⟩ lw2
  refine sO (fun bk3 w3 kb3 lw3 => ?_)
  refine sS (fun w4 sw4 vw4 => ?_)
  refine vOrd_nil ?_
  refine Wp.seq ?_
  refine qZ ?_
  refine Wp.block ?_
  refine Wp.loop (fun q st W => ∃ (i : Nat) (p zh zl : Int), st = St.of [(2, .p 2 bk1 0), (3, .p 3 bk3 0), (5, .v (.int .i64 o)), (6, .v (.int .i64 p))] [(2, bk1, [.int .i64 0, .int .u64 0]), (3, bk3, [.int .i64 zh, .int .u64 zl])] ∧ p = (i : Int) ∧ i ≤ k ∧ WideIs zh zl (oP i) ∧ q = k - i) ?_ ?_
  · exact ⟨_, _, (St.of_le' (env := [(2, .p 2 _ 0), (3, .p 3 _ 0), (5, .v _), (6, .v _)]) (mem := [(2, _, [_, _]), (3, _, [_, _])]) ⟨rfl, rfl, rfl, rfl, trivial⟩ ⟨rfl, rfl, trivial⟩), 0, 0, oh, ol, rfl, rfl, Nat.zero_le _, h1, rfl⟩
  · rintro k st w5 ⟨i, p, zh, zl, rfl, hp, hi, hw, rfl⟩
    refine Wp.seq ?_
    refine wR [0] ?_
    refine p_lss rfl rfl rfl rfl rfl (fun h7 => ?_) (fun h7 => ?_)
    · refine vOrd_nil ?_
      refine Wp.seq ?_
      refine Wp.condT rfl rfl ?_
      refine Wp.skip ?_
      refine Wp.seq ?_
      refine Wp.block ?_
      have hP0 := oP_pos i
      have hP1 := oP_low (k := i) (by omega)
      obtain ⟨-, fv, -⟩ := fr_fit (z := oP i * 256) (by omega) (by omega)
      refine wD [0, 1, 2, 3, 4, 5, 6] [2, 0, 0, 0, 47, 95, 0] (fun | 1 => fun v _ => IsW 256 v | 2 => fun v _ => ∃ s, v = .tuple #[s, .int .i64 (fitE (oP i * 256))] ∧ IsW (fitV (oP i * 256)) s | _ => fun _ _ => True) (fun _ _ => ?_)
      refine sL ?_
      refine s_callD rfl rfl rfl (by kernel_rfl) rfl (fun wc lc => c_wof 256 (by decide) (by decide) wc) ?_
      rintro v w6 u6 h256 lw6 mw6
      refine sD (fun wc lc => c_wmul ⟨_, _, rfl, hw⟩ h256 wc) ?_
      rintro v w7 u7 ⟨s, rfl, sh, sl, rfl, hs⟩ lw7 mw7
      rw [fv, ← oP_succ] at hs
      refine sQ 3 ?_
      refine sS (fun w8 sw8 vw8 => ?_)
      refine vOrd_nil ?_
      refine wR [0, 1] ?_
      refine aP (-9223372036854775808) 9223372036854775807 ?_
      refine sZ 1 ?_
      exact ⟨_, _, by omega, (St.of_le' (env := [(2, .p 2 _ 0), (3, .p 3 _ 0), (5, .v _), (6, .v _)]) (mem := [(2, _, [_, _]), (3, _, [_, _])]) ⟨rfl, rfl, rfl, rfl, trivial⟩ ⟨rfl, rfl, trivial⟩), i + 1, _, _, _, rfl, by omega, by omega, hs, rfl⟩
    · obtain rfl : i = k := by omega
      refine vOrd_nil ?_
      refine Wp.seq ?_
      refine Wp.condF rfl rfl ?_
      refine Wp.exit ?_
      refine qQ 1 ?_
      refine sS (fun w9 sw9 vw9 => ?_)
      refine vOrd_nil ?_
      refine Wp.ret ⟨.inr rfl, fun lW => ⟨_, res_cell rfl rfl rfl rfl, _, rfl, ?_, lW⟩⟩
      clear lW
      exact ⟨_, _, rfl, hw⟩
theorem fholds_any {n o : Int} {u : Value} (k : Nat) (ho : (k : Int) = o) (hk : k ≤ 15) (hn : IsW n u) {w : World} : Calls Try.prog 57 #[.int .i64 o, u] w fun e w' => ∃ r, e = .returned r ∧ r = .bool (decide (0 ≤ n ∧ n < oP k)) ∧ Below w.heap.size w w' := by
  obtain ⟨nh, nl, rfl, hn⟩ := hn
  have hn' := id hn
  obtain ⟨_, _, _, _, _⟩ := hn'
  have hcc := @cmpI_low n (oP k)
  refine calls_Wp (args := [_, _]) (n := 15) Try.func57 rfl rfl (by simp) ?_
  refine Wp.seq ?_
  refine wR [0, 1] ?_
  refine sE (fun bk1 w1 kb1 lw1 => ?_)
  refine sZ 1 ?_
  refine Wp.seq ?_
  refine wD [0, 1, 2, 3, 4, 5, 6, 7, 8, 9, 10] [0, 0, 0, 0, 111, 0, 0, 0, 0, 0, 0] (fun | 6 => fun v _ => IsW (oP k) v | 7 => fun v _ => v = .int .i64 (cmpI n (oP k)) | _ => fun _ _ => True) (fun _ _ => ?_)
  refine sQ 2 ?_
  refine p_geq rfl rfl rfl rfl rfl (fun h7 => ?_) (fun h7 => ?_)
  · refine sQ 3 ?_
    refine sD (fun wc lc => fpow_any k ho hk) ?_
    rintro v w2 u2 ⟨ph, pl, rfl, hp⟩ lw2 mw2
    refine sD (fun wc lc => fr_wcmp ⟨_, _, rfl, hn⟩ ⟨_, _, rfl, hp⟩ wc) ?_
    rintro v w3 u3 rfl lw3 mw3
    refine p_lss rfl rfl rfl rfl rfl (fun h13 => ?_) (fun h13 => ?_)
    · refine sZ 2 ?_
      refine Wp.ret ⟨.inr rfl, fun lW => ⟨_, res_tmp (P := Try.prog) rfl rfl, _, rfl, ?_, lW⟩⟩
      clear lW
      rw [decide_eq_true (by omega)]
    · refine sZ 2 ?_
      refine Wp.ret ⟨.inr rfl, fun lW => ⟨_, res_tmp (P := Try.prog) rfl rfl, _, rfl, ?_, lW⟩⟩
      clear lW
      rw [decide_eq_false (by omega)]
  · refine sZ 8 ?_
    refine Wp.ret ⟨.inr rfl, fun lW => ⟨_, res_tmp (P := Try.prog) rfl rfl, _, rfl, ?_, lW⟩⟩
    clear lW
    rw [decide_eq_false (by omega)]
theorem ffrom_any {f o : Int} {u : Value} (k : Nat) (ho : (k : Int) = o) (hk : k ≤ 15) (hf : IsW f u) (h : 0 ≤ f ∧ f < oP k) {w : World} : Calls Try.prog 58 #[u, .int .i64 o] w fun e w' => ∃ r, e = .returned r ∧ r = .int .i64 (flI f k) ∧ Below w.heap.size w w' := by
  obtain ⟨_, _, rfl, hf⟩ := hf
  have hP := oP_pos k
  have hL0 := fl_low (k := k) h.1
  have hL1 := fl_top h.2
  have hQ : flI f k - 1 ≤ f * 1000000000000000000 / oP k ∧ f * 1000000000000000000 / oP k ≤ flI f k := by
    by_cases q : f * 1000000000000000000 % oP k = 0
    · rw [fl_whole q]; omega
    · rw [fl_left q]; omega
  have hQ0 : 0 ≤ f * 1000000000000000000 / oP k := Int.ediv_nonneg (by omega) (by omega)
  obtain ⟨fi, fv, fe⟩ := fr_fit (z := f * 1000000000000000000 / oP k) hQ0 (by omega)
  obtain ⟨iv, ie⟩ := int_yes (z := f * 1000000000000000000 / oP k) (inI_iff.2 (by omega))
  have fr := fitR_yes (y := f * 1000000000000000000 % oP k) fi
  by_cases hz : f * 1000000000000000000 % oP k = 0
  · refine calls_Wp (args := [_, _]) (n := 30) Try.func58 rfl rfl (by simp) ?_
    refine Wp.seq ?_
    refine wR [0, 1] ?_
    refine sE (fun bk1 w1 kb1 lw1 => ?_)
    refine sZ 1 ?_
    refine Wp.seq ?_
    refine wD [0, 2, 9, 10, 1, 3, 4, 5, 6, 7, 8, 11, 12, 13] [1550, 1539, 1535, 1023, 0, 0, 0, 0, 1983, 3967, 7935, 0, 0, 0] (fun | 1 => fun v _ => IsW 1000000000000000000 v | 3 => fun v _ => IsW (oP k) v | 4 => fun v _ => ∃ q p, v = .tuple #[q, p, .int .i64 (fitE (f * 1000000000000000000 / oP k))] ∧ IsW (fitV (f * 1000000000000000000 / oP k)) q ∧ IsW (fitR (f * 1000000000000000000 / oP k) (f * 1000000000000000000 % oP k)) p | _ => fun _ _ => True) (fun _ _ => ?_)
    refine sQ 2 ?_
    refine sO (fun bk2 w2 kb2 lw2 => ?_)
    refine sO (fun bk3 w3 kb3 lw3 => ?_)
    refine s_callD rfl rfl rfl (by kernel_rfl) rfl (fun wc lc => c_wof 1000000000000000000 (by decide) (by decide) wc) ?_
    rintro v w4 u4 ⟨sh, sl, rfl, h2⟩ lw4 mw4
    refine sD (fun wc lc => fpow_any k ho hk) ?_
    rintro v w5 u5 ⟨ph, pl, rfl, hp⟩ lw5 mw5
    refine sD (fun wc lc => fr_wmuldiv ⟨_, _, rfl, hf⟩ ⟨_, _, rfl, h2⟩ ⟨_, _, rfl, hp⟩ hP wc) ?_
    rintro v w6 u6 ⟨q, r, rfl, ⟨qh, ql, rfl, hq⟩, rh, rl, rfl, hr⟩ lw6 mw6
    rw [fv] at hq
    rw [fr, hz] at hr
    refine sQ 4 ?_
    refine sS (fun w7 sw7 vw7 => ?_)
    refine sS (fun w8 sw8 vw8 => ?_)
    refine sZ 1 ?_
    refine qQ 1 ?_
    refine sT (c_wint ⟨_, _, rfl, hq⟩ _) ?_
    rintro v w9 rfl lw9
    rw [iv]
    refine sZ 5 ?_
    refine Wp.seq ?_
    refine qQ 1 ?_
    refine s_build rfl rfl rfl rfl rfl rfl ?_
    refine s_eqv (c := false) rfl rfl rfl rfl rfl (fun _ => by kernel_rfl) (fun w => by simp only [run_neq_wide, eqW_same hr (show WideIs 0 0 0 by unfold WideIs; omega), Bool.not_true]) ?_
    refine vOrd_nil ?_
    refine Wp.condF rfl rfl ?_
    refine Wp.skip ?_
    refine qZ ?_
    refine Wp.ret ⟨.inr rfl, fun lW => ⟨_, res_tmp (P := Try.prog) rfl rfl, _, rfl, ?_, lW⟩⟩
    clear lW
    rw [fl_whole hz]
  · refine calls_Wp (args := [_, _]) (n := 30) Try.func58 rfl rfl (by simp) ?_
    refine Wp.seq ?_
    refine wR [0, 1] ?_
    refine sE (fun bk1 w1 kb1 lw1 => ?_)
    refine sZ 1 ?_
    refine Wp.seq ?_
    refine wD [0, 2, 9, 10, 1, 3, 4, 5, 6, 7, 8, 11, 12, 13] [1550, 1539, 1535, 1023, 0, 0, 0, 0, 1983, 3967, 7935, 0, 0, 0] (fun | 1 => fun v _ => IsW 1000000000000000000 v | 3 => fun v _ => IsW (oP k) v | 4 => fun v _ => ∃ q p, v = .tuple #[q, p, .int .i64 (fitE (f * 1000000000000000000 / oP k))] ∧ IsW (fitV (f * 1000000000000000000 / oP k)) q ∧ IsW (fitR (f * 1000000000000000000 / oP k) (f * 1000000000000000000 % oP k)) p | _ => fun _ _ => True) (fun _ _ => ?_)
    refine sQ 2 ?_
    refine sO (fun bk2 w2 kb2 lw2 => ?_)
    refine sO (fun bk3 w3 kb3 lw3 => ?_)
    refine s_callD rfl rfl rfl (by kernel_rfl) rfl (fun wc lc => c_wof 1000000000000000000 (by decide) (by decide) wc) ?_
    rintro v w4 u4 ⟨sh, sl, rfl, h2⟩ lw4 mw4
    refine sD (fun wc lc => fpow_any k ho hk) ?_
    rintro v w5 u5 ⟨ph, pl, rfl, hp⟩ lw5 mw5
    refine sD (fun wc lc => fr_wmuldiv ⟨_, _, rfl, hf⟩ ⟨_, _, rfl, h2⟩ ⟨_, _, rfl, hp⟩ hP wc) ?_
    rintro v w6 u6 ⟨q, r, rfl, ⟨qh, ql, rfl, hq⟩, rh, rl, rfl, hr⟩ lw6 mw6
    rw [fv] at hq
    rw [fr] at hr
    refine sQ 4 ?_
    refine sS (fun w7 sw7 vw7 => ?_)
    refine sS (fun w8 sw8 vw8 => ?_)
    refine sZ 1 ?_
    refine qQ 1 ?_
    refine sT (c_wint ⟨_, _, rfl, hq⟩ _) ?_
    rintro v w9 rfl lw9
    rw [iv]
    refine sZ 5 ?_
    refine Wp.seq ?_
    refine qQ 1 ?_
    refine s_build rfl rfl rfl rfl rfl rfl ?_
    refine s_eqv (c := true) rfl rfl rfl rfl rfl (fun _ => by kernel_rfl) (fun w => by simp only [run_neq_wide, eqL_not hr (show WideIs 0 0 0 by unfold WideIs; omega) hz, Bool.not_false]) ?_
    refine vOrd_nil ?_
    refine Wp.condT rfl rfl ?_
    refine wQ 1 ?_
    refine aP (-9223372036854775808) 9223372036854775807 ?_
    refine sZ 1 ?_
    refine qZ ?_
    refine Wp.ret ⟨.inr rfl, fun lW => ⟨_, res_tmp (P := Try.prog) rfl rfl, _, rfl, ?_, lW⟩⟩
    clear lW
    rw [fl_left hz]
theorem fenc_any {a o : Int} (ha : I64 a) (ho : I64 o) {w : World} : Calls Try.prog 25 #[.int .i64 a, .int .i64 o] w fun e w' => ∃ r, e = .returned r ∧ (∃ s, r = .tuple #[s, .int .i64 (fcE a o)] ∧ IsW (fcZ a o) s) ∧ Below w.heap.size w w' := by
  obtain ⟨a0, a1⟩ := ha
  obtain ⟨o0, o1⟩ := ho
  refine calls_Wp (args := [_, _]) (n := 36) Try.func25 rfl rfl (by simp) ?_
  refine Wp.seq ?_
  refine wR [0, 1] ?_
  refine sO (fun bk1 w1 kb1 lw1 => ?_)
  refine sZ 1 ?_
  refine Wp.seq ?_
  refine qQ 1 ?_
  refine p_lss rfl rfl rfl rfl rfl (fun h10 => ?_) (fun h10 => ?_)
  · refine sZ 12 ?_
    refine Wp.condT rfl rfl ?_
    refine Wp.seq ?_
    refine wR [0, 1, 2] ?_
    refine s_build rfl rfl rfl rfl rfl rfl ?_
    refine sS (fun w3 sw3 vw3 => ?_)
    refine sZ 1 ?_
    refine Wp.ret ⟨.inr rfl, fun lW => ⟨_, ⟨_, _, res_cell rfl rfl rfl rfl, res_tmp (P := Try.prog) rfl rfl, rfl⟩, _, rfl, ?_, lW⟩⟩
    clear lW
    obtain ⟨e1, e2⟩ := fc_bad (a := a) (o := o) (by omega)
    rw [e1, e2]
    exact ⟨_, rfl, _, _, rfl, by unfold WideIs; omega⟩
  · refine sQ 2 ?_
    refine p_geq rfl rfl rfl rfl rfl (fun h13 => ?_) (fun h13 => ?_)
    · refine sZ 9 ?_
      refine Wp.condT rfl rfl ?_
      refine Wp.seq ?_
      refine wR [0, 1, 2] ?_
      refine s_build rfl rfl rfl rfl rfl rfl ?_
      refine sS (fun w5 sw5 vw5 => ?_)
      refine sZ 1 ?_
      refine Wp.ret ⟨.inr rfl, fun lW => ⟨_, ⟨_, _, res_cell rfl rfl rfl rfl, res_tmp (P := Try.prog) rfl rfl, rfl⟩, _, rfl, ?_, lW⟩⟩
      clear lW
      obtain ⟨e1, e2⟩ := fc_bad (a := a) (o := o) (by omega)
      rw [e1, e2]
      exact ⟨_, rfl, _, _, rfl, by unfold WideIs; omega⟩
    · refine sQ 3 ?_
      refine p_lss rfl rfl rfl rfl rfl (fun h17 => ?_) (fun h17 => ?_)
      · refine sZ 5 ?_
        refine Wp.condT rfl rfl ?_
        refine Wp.seq ?_
        refine wR [0, 1, 2] ?_
        refine s_build rfl rfl rfl rfl rfl rfl ?_
        refine sS (fun w7 sw7 vw7 => ?_)
        refine sZ 1 ?_
        refine Wp.ret ⟨.inr rfl, fun lW => ⟨_, ⟨_, _, res_cell rfl rfl rfl rfl, res_tmp (P := Try.prog) rfl rfl, rfl⟩, _, rfl, ?_, lW⟩⟩
        clear lW
        obtain ⟨e1, e2⟩ := fc_bad (a := a) (o := o) (by omega)
        rw [e1, e2]
        exact ⟨_, rfl, _, _, rfl, by unfold WideIs; omega⟩
      · refine sQ 3 ?_
        refine p_gtr rfl rfl rfl rfl rfl (fun h21 => ?_) (fun h21 => ?_)
        · refine sZ 1 ?_
          refine Wp.condT rfl rfl ?_
          refine Wp.seq ?_
          refine wR [0, 1, 2] ?_
          refine s_build rfl rfl rfl rfl rfl rfl ?_
          refine sS (fun w9 sw9 vw9 => ?_)
          refine sZ 1 ?_
          refine Wp.ret ⟨.inr rfl, fun lW => ⟨_, ⟨_, _, res_cell rfl rfl rfl rfl, res_tmp (P := Try.prog) rfl rfl, rfl⟩, _, rfl, ?_, lW⟩⟩
          clear lW
          obtain ⟨e1, e2⟩ := fc_bad (a := a) (o := o) (by omega)
          rw [e1, e2]
          exact ⟨_, rfl, _, _, rfl, by unfold WideIs; omega⟩
        · refine sZ 1 ?_
          refine Wp.condF rfl rfl ?_
          refine Wp.skip ?_
          refine Wp.seq ?_
          obtain ⟨e1, e2⟩ := fc_ok (a := a) (o := o) (by omega)
          rw [e1, e2]
          have h1 := fc_low (k := o.toNat) (show 0 ≤ a by omega)
          have h2 := fc_top (k := o.toNat) (show a < 1000000000000000000 by omega)
          have h3 := oP_most (k := o.toNat) (by omega)
          have hfc : a * oP o.toNat / 1000000000000000000 = fcI a o.toNat := rfl
          obtain ⟨-, fv, fe⟩ := fr_fit (z := fcI a o.toNat) h1 (by omega)
          refine wQ 1 ?_
          refine s_callT rfl rfl rfl (by kernel_rfl) rfl (c_wof a (by omega) (by omega) _) ?_
          rintro v w10 ⟨ah, al, rfl, hA⟩ lw10
          refine sM ?_
          refine s_callT rfl rfl rfl (by kernel_rfl) rfl (fpow_any o.toNat (by omega) (by omega)) ?_
          rintro v w11 ⟨ph, pl, rfl, hp⟩ lw11
          refine s_callT rfl rfl rfl (by kernel_rfl) rfl (c_wof 1000000000000000000 (by decide) (by decide) _) ?_
          rintro v w12 ⟨sh, sl, rfl, hS⟩ lw12
          refine s_callT rfl rfl rfl (by kernel_rfl) rfl (fr_wmuldiv ⟨_, _, rfl, hA⟩ ⟨_, _, rfl, hp⟩ ⟨_, _, rfl, hS⟩ (by decide) _) ?_
          rintro v w13 ⟨q, r, rfl, ⟨qh, ql, rfl, hq⟩, rh, rl, rfl, hr⟩ lw13
          rw [hfc, fe]
          rw [hfc, fv] at hq
          refine sQ 4 ?_
          refine sO (fun bk14 w14 kb14 lw14 => ?_)
          refine sO (fun bk15 w15 kb15 lw15 => ?_)
          refine sS (fun w16 sw16 vw16 => ?_)
          refine sS (fun w17 sw17 vw17 => ?_)
          refine sZ 1 ?_
          refine qQ 2 ?_
          refine sS (fun w18 sw18 vw18 => ?_)
          refine sZ 1 ?_
          refine Wp.ret ⟨.inr rfl, fun lW => ⟨_, ⟨_, _, res_cell rfl rfl rfl rfl, res_tmp (P := Try.prog) rfl rfl, rfl⟩, _, rfl, ?_, lW⟩⟩
          clear lW
          exact ⟨_, rfl, _, _, rfl, hq⟩
theorem fdec_any {f o : Int} {u : Value} (hf : IsW f u) (ho : I64 o) {w : World} : Calls Try.prog 37 #[u, .int .i64 o] w fun e w' => ∃ r, e = .returned r ∧ r = .tuple #[.int .i64 (fdZ f o), .int .i64 (fdE f o)] ∧ Below w.heap.size w w' := by
  obtain ⟨_, _, rfl, hf⟩ := hf
  obtain ⟨o0, o1⟩ := ho
  by_cases hin : (0 ≤ o ∧ o ≤ 10) ∧ 0 ≤ f ∧ f < oP o.toNat
  case neg =>
    obtain ⟨e1, e2⟩ := fd_bad hin
    rw [e1, e2]
    refine calls_Wp (args := [_, _]) (n := 38) Try.func37 rfl rfl (by simp) ?_
    refine Wp.seq ?_
    refine wR [0, 1, 2] ?_
    refine sE (fun bk1 w1 kb1 lw1 => ?_)
    refine sZ 2 ?_
    refine Wp.seq ?_
    refine qQ 1 ?_
    refine p_lss rfl rfl rfl rfl rfl (fun h10 => ?_) (fun h10 => ?_)
    · refine sZ 10 ?_
      refine Wp.condT rfl rfl ?_
      refine qZ ?_
      refine Wp.ret ⟨.inr rfl, fun lW => ⟨_, ⟨_, _, res_tmp (P := Try.prog) rfl rfl, res_tmp (P := Try.prog) rfl rfl, rfl⟩, _, rfl, ?_, lW⟩⟩
      clear lW
      rfl
    · refine sQ 2 ?_
      refine p_gtr rfl rfl rfl rfl rfl (fun h13 => ?_) (fun h13 => ?_)
      · refine sZ 7 ?_
        refine Wp.condT rfl rfl ?_
        refine qZ ?_
        refine Wp.ret ⟨.inr rfl, fun lW => ⟨_, ⟨_, _, res_tmp (P := Try.prog) rfl rfl, res_tmp (P := Try.prog) rfl rfl, rfl⟩, _, rfl, ?_, lW⟩⟩
        clear lW
        rfl
      · refine sQ 4 ?_
        refine s_callT rfl rfl rfl (by kernel_rfl) rfl (fholds_any o.toNat (by omega) (by omega) ⟨_, _, rfl, hf⟩) ?_
        rintro v w2 rfl lw2
        rw [decide_eq_false (fun q => hin ⟨by omega, q⟩)]
        refine sZ 2 ?_
        refine Wp.condT rfl rfl ?_
        refine qZ ?_
        refine Wp.ret ⟨.inr rfl, fun lW => ⟨_, ⟨_, _, res_tmp (P := Try.prog) rfl rfl, res_tmp (P := Try.prog) rfl rfl, rfl⟩, _, rfl, ?_, lW⟩⟩
        clear lW
        rfl
  have hL0 := fl_low (k := o.toNat) hin.2.1
  have hL1 := fl_top hin.2.2
  by_cases hs : flI f o.toNat < 1000000000000000000
  case neg =>
    obtain ⟨e1, -⟩ := fc_bad (a := flI f o.toNat) (o := o) (by omega)
    obtain ⟨e2, e3⟩ := fd_fine hin (decide_eq_false (fun q => q.1 (by omega)))
    rw [e2, e3]
    refine calls_Wp (args := [_, _]) (n := 38) Try.func37 rfl rfl (by simp) ?_
    refine Wp.seq ?_
    refine wR [0, 1, 2] ?_
    refine sE (fun bk1 w1 kb1 lw1 => ?_)
    refine sZ 2 ?_
    refine Wp.seq ?_
    refine qQ 1 ?_
    refine f_lss rfl rfl rfl rfl rfl (by omega) ?_
    refine sQ 2 ?_
    refine f_gtr rfl rfl rfl rfl rfl (by omega) ?_
    refine sQ 4 ?_
    refine s_callT rfl rfl rfl (by kernel_rfl) rfl (fholds_any o.toNat (by omega) (by omega) ⟨_, _, rfl, hf⟩) ?_
    rintro v w2 rfl lw2
    rw [decide_eq_true hin.2]
    refine sZ 2 ?_
    refine Wp.condF rfl rfl ?_
    refine Wp.skip ?_
    refine qQ 2 ?_
    refine s_callT rfl rfl rfl (by kernel_rfl) rfl (ffrom_any o.toNat (by omega) (by omega) ⟨_, _, rfl, hf⟩ hin.2) ?_
    rintro v w3 rfl lw3
    refine sZ 1 ?_
    refine Wp.seq ?_
    refine qQ 2 ?_
    refine sT (fenc_any (a := flI f o.toNat) (o := o) ⟨by omega, by omega⟩ ⟨by omega, by omega⟩) ?_
    rintro v w4 ⟨cu, rfl, ch, cl, rfl, hc⟩ lw4
    rw [e1]
    refine sQ 3 ?_
    refine sO (fun bk5 w5 kb5 lw5 => ?_)
    refine sS (fun w6 sw6 vw6 => ?_)
    refine sZ 1 ?_
    refine qQ 1 ?_
    refine t_neq rfl rfl rfl rfl rfl (by omega) ?_
    refine sZ 5 ?_
    refine Wp.condT rfl rfl ?_
    refine qZ ?_
    refine Wp.ret ⟨.inr rfl, fun lW => ⟨_, ⟨_, _, res_tmp (P := Try.prog) rfl rfl, res_tmp (P := Try.prog) rfl rfl, rfl⟩, _, rfl, ?_, lW⟩⟩
    clear lW
    rfl
  obtain ⟨e1, e2⟩ := fc_ok (a := flI f o.toNat) (o := o) (by omega)
  by_cases hk : fcI (flI f o.toNat) o.toNat = f
  · obtain ⟨e3, e4⟩ := fd_ok hin (ls_of hk hs)
    rw [e3, e4]
    refine calls_Wp (args := [_, _]) (n := 38) Try.func37 rfl rfl (by simp) ?_
    refine Wp.seq ?_
    refine wR [0, 1, 2] ?_
    refine sE (fun bk1 w1 kb1 lw1 => ?_)
    refine sZ 2 ?_
    refine Wp.seq ?_
    refine qQ 1 ?_
    refine f_lss rfl rfl rfl rfl rfl (by omega) ?_
    refine sQ 2 ?_
    refine f_gtr rfl rfl rfl rfl rfl (by omega) ?_
    refine sQ 4 ?_
    refine s_callT rfl rfl rfl (by kernel_rfl) rfl (fholds_any o.toNat (by omega) (by omega) ⟨_, _, rfl, hf⟩) ?_
    rintro v w2 rfl lw2
    rw [decide_eq_true hin.2]
    refine sZ 2 ?_
    refine Wp.condF rfl rfl ?_
    refine Wp.skip ?_
    refine qQ 2 ?_
    refine s_callT rfl rfl rfl (by kernel_rfl) rfl (ffrom_any o.toNat (by omega) (by omega) ⟨_, _, rfl, hf⟩ hin.2) ?_
    rintro v w3 rfl lw3
    refine sZ 1 ?_
    refine Wp.seq ?_
    refine qQ 2 ?_
    refine sT (fenc_any (a := flI f o.toNat) (o := o) ⟨by omega, by omega⟩ ⟨by omega, by omega⟩) ?_
    rintro v w4 ⟨cu, rfl, ch, cl, rfl, hc⟩ lw4
    rw [e1]
    rw [e2, hk] at hc
    refine sQ 3 ?_
    refine sO (fun bk5 w5 kb5 lw5 => ?_)
    refine sS (fun w6 sw6 vw6 => ?_)
    refine sZ 1 ?_
    refine qQ 1 ?_
    refine f_neq rfl rfl rfl rfl rfl (by omega) ?_
    refine sQ 3 ?_
    refine s_eqv (c := false) rfl rfl rfl rfl rfl (fun _ => by kernel_rfl) (fun w => by simp only [run_neq_wide, eqW_same hc hf, Bool.not_true]) ?_
    refine sZ 1 ?_
    refine Wp.condF rfl rfl ?_
    refine Wp.skip ?_
    refine qZ ?_
    refine Wp.ret ⟨.inr rfl, fun lW => ⟨_, ⟨_, _, res_tmp (P := Try.prog) rfl rfl, res_tmp (P := Try.prog) rfl rfl, rfl⟩, _, rfl, ?_, lW⟩⟩
    clear lW
    rfl
  · obtain ⟨e3, e4⟩ := fd_fine hin (decide_eq_false (fun q => hk q.2))
    rw [e3, e4]
    refine calls_Wp (args := [_, _]) (n := 38) Try.func37 rfl rfl (by simp) ?_
    refine Wp.seq ?_
    refine wR [0, 1, 2] ?_
    refine sE (fun bk1 w1 kb1 lw1 => ?_)
    refine sZ 2 ?_
    refine Wp.seq ?_
    refine qQ 1 ?_
    refine f_lss rfl rfl rfl rfl rfl (by omega) ?_
    refine sQ 2 ?_
    refine f_gtr rfl rfl rfl rfl rfl (by omega) ?_
    refine sQ 4 ?_
    refine s_callT rfl rfl rfl (by kernel_rfl) rfl (fholds_any o.toNat (by omega) (by omega) ⟨_, _, rfl, hf⟩) ?_
    rintro v w2 rfl lw2
    rw [decide_eq_true hin.2]
    refine sZ 2 ?_
    refine Wp.condF rfl rfl ?_
    refine Wp.skip ?_
    refine qQ 2 ?_
    refine s_callT rfl rfl rfl (by kernel_rfl) rfl (ffrom_any o.toNat (by omega) (by omega) ⟨_, _, rfl, hf⟩ hin.2) ?_
    rintro v w3 rfl lw3
    refine sZ 1 ?_
    refine Wp.seq ?_
    refine qQ 2 ?_
    refine sT (fenc_any (a := flI f o.toNat) (o := o) ⟨by omega, by omega⟩ ⟨by omega, by omega⟩) ?_
    rintro v w4 ⟨cu, rfl, ch, cl, rfl, hc⟩ lw4
    rw [e1]
    rw [e2] at hc
    refine sQ 3 ?_
    refine sO (fun bk5 w5 kb5 lw5 => ?_)
    refine sS (fun w6 sw6 vw6 => ?_)
    refine sZ 1 ?_
    refine qQ 1 ?_
    refine f_neq rfl rfl rfl rfl rfl (by omega) ?_
    refine sQ 3 ?_
    refine s_eqv (c := true) rfl rfl rfl rfl rfl (fun _ => by kernel_rfl) (fun w => by simp only [run_neq_wide, eqL_not hc hf hk, Bool.not_false]) ?_
    refine sZ 1 ?_
    refine Wp.condT rfl rfl ?_
    refine qZ ?_
    refine Wp.ret ⟨.inr rfl, fun lW => ⟨_, ⟨_, _, res_tmp (P := Try.prog) rfl rfl, res_tmp (P := Try.prog) rfl rfl, rfl⟩, _, rfl, ?_, lW⟩⟩
    clear lW
    rfl
theorem fput_own {n o : Int} {u : Value} (hn : IsW n u) (ho : I64 o) {w : World} : Calls Try.prog 51 #[u, .int .i64 o] w fun e w' => ∃ r, e = .returned r ∧ (∃ s, r = .tuple #[s, .int .i64 (fpE n o)] ∧ w'.ownsRow w.heap.size 5 1 s (fpL n o).length (bytesV (fpL n o))) ∧ Below w.heap.size w w' := by
  obtain ⟨nh, nl, rfl, hn⟩ := hn
  obtain ⟨o0, o1⟩ := ho
  by_cases hin : 0 ≤ o ∧ o ≤ 15
  case neg =>
    obtain ⟨e1, e2⟩ := fp_bad (n := n) hin
    rw [e1, e2]
    refine calls_Wp (args := [_, _]) (n := 43) Try.func51 rfl rfl (by simp) ?_
    refine Wp.seq ?_
    refine wR [0, 1, 2] ?_
    refine sE (fun bk1 w1 kb1 lw1 => ?_)
    refine sZ 2 ?_
    refine Wp.seq ?_
    refine qQ 1 ?_
    refine p_lss rfl rfl rfl rfl rfl (fun h10 => ?_) (fun h10 => ?_)
    · refine sZ 4 ?_
      refine Wp.condT rfl rfl ?_
      refine qZ ?_
      refine Wp.ret ⟨.inr rfl, fun lW => ⟨_, ⟨_, _, res_tmp (P := Try.prog) rfl rfl, res_tmp (P := Try.prog) rfl rfl, rfl⟩, _, rfl, ?_, lW⟩⟩
      clear lW
      exact ⟨_, rfl, rfl, .inl ⟨rfl, rfl⟩⟩
    · refine sQ 2 ?_
      refine t_gtr rfl rfl rfl rfl rfl (by omega) ?_
      refine sZ 1 ?_
      refine Wp.condT rfl rfl ?_
      refine qZ ?_
      refine Wp.ret ⟨.inr rfl, fun lW => ⟨_, ⟨_, _, res_tmp (P := Try.prog) rfl rfl, res_tmp (P := Try.prog) rfl rfl, rfl⟩, _, rfl, ?_, lW⟩⟩
      clear lW
      exact ⟨_, rfl, rfl, .inl ⟨rfl, rfl⟩⟩
  obtain ⟨k, hko⟩ : ∃ k : Nat, (k : Int) = o := ⟨o.toNat, by omega⟩
  have hk : k ≤ 15 := by omega
  have hot : o.toNat = k := by omega
  by_cases hv : 0 ≤ n ∧ n < oP k
  case neg =>
    obtain ⟨e1, e2⟩ := fp_over hin (by rw [hot]; exact hv)
    rw [e1, e2]
    refine calls_Wp (args := [_, _]) (n := 43) Try.func51 rfl rfl (by simp) ?_
    refine Wp.seq ?_
    refine wR [0, 1, 2] ?_
    refine sE (fun bk1 w1 kb1 lw1 => ?_)
    refine sZ 2 ?_
    refine Wp.seq ?_
    refine qQ 1 ?_
    refine f_lss rfl rfl rfl rfl rfl (by omega) ?_
    refine sQ 2 ?_
    refine f_gtr rfl rfl rfl rfl rfl (by omega) ?_
    refine sZ 1 ?_
    refine Wp.condF rfl rfl ?_
    refine Wp.skip ?_
    refine Wp.seq ?_
    refine qQ 2 ?_
    refine sT (fholds_any k hko hk ⟨_, _, rfl, hn⟩) ?_
    rintro v w2 rfl lw2
    rw [decide_eq_false hv]
    refine sZ 1 ?_
    refine Wp.condT rfl rfl ?_
    refine qZ ?_
    refine Wp.ret ⟨.inr rfl, fun lW => ⟨_, ⟨_, _, res_tmp (P := Try.prog) rfl rfl, res_tmp (P := Try.prog) rfl rfl, rfl⟩, _, rfl, ?_, lW⟩⟩
    clear lW
    exact ⟨_, rfl, rfl, .inl ⟨rfl, rfl⟩⟩
  obtain ⟨e1, e2⟩ := fp_ok hin (by rw [hot]; exact hv)
  rw [hot] at e2
  rw [e1, e2]
  subst hko
  refine calls_Wp (args := [_, _]) (n := 43) Try.func51 rfl rfl (by simp) ?_
  refine Wp.seq ?_
  refine wR [0, 1, 2] ?_
  refine sE (fun bk1 w1 kb1 lw1 => ?_)
  try replace ty := TyAt.later ty lw1
  refine sZ 2 ?_
  refine Wp.seq ?_
  refine qQ 1 ?_
  refine f_lss rfl rfl rfl rfl rfl (by omega) ?_
  refine sQ 2 ?_
  refine f_gtr rfl rfl rfl rfl rfl (by omega) ?_
  refine sZ 1 ?_
  refine Wp.condF rfl rfl ?_
  refine Wp.skip ?_
  refine Wp.seq ?_
  refine qQ 2 ?_
  refine sT (fholds_any k rfl hk ⟨_, _, rfl, hn⟩) ?_
  rintro v w2 rfl lw2
  try replace ty := TyAt.later ty lw2
  rw [decide_eq_true hv]
  refine sZ 1 ?_
  refine Wp.condF rfl rfl ?_
  refine Wp.skip ?_
  refine Wp.seq ?_
  refine Wp.var (h := 2) rfl (fun v2 => ?_)
  have q2 := v2.lt
  refine wQ 1 ?_
  refine s_make (k1 := .i64) (k2 := .i64) (n := k) (e := 5) rfl rfl rfl rfl rfl rfl rfl rfl (by show (1 : Int) * _ ≤ _; omega) (by omega) ?_
  intro cw ww hcw lww hroww
  have hrz : RowIs ww cw 5 (bytesV (List.replicate k 0)) := by rw [← made_zeros k (.int .u8 0) rfl]; exact hroww
  have vw0 := hrz.var
  have ty := hrz.kind
  have hcz : w.heap.size ≤ cw := by have := lw1.size; omega
  refine sZ 1 ?_
  refine Wp.seq ?_
  refine Wp.seq ?_
  refine Wp.adopt 1007 vw0 (by omega) rfl (show AllMem (fun d => d ≠ cw) _ from (by repeat (first | exact AllMem.args | exact AllMem.of (by simp only [AllL, and_true]; omega) | refine AllMem.put ?_ | refine AllMem.new ?_ (by omega) | refine AllMem.set ?_ (by omega)))) ?_
  refine wZ ?_
  refine Wp.block ?_
  rw [show bytesV (List.replicate k 0) = bytesV (List.replicate (k - 0) 0 ++ octL n 0) by rw [Nat.sub_zero, octL, List.append_nil]]
  refine Wp.loop (fun q st W => ∃ (i : Nat) (p zh zl : Int), st = St.of [(1, .v (.int .i64 (k : Int))), (2, .p 2 bk1 0), (6, .v (.slice (some ⟨cw, 0, none⟩) k k)), (21, .v (.int .i64 (k : Int))), (22, .v (.int .i64 p))] [(2, bk1, [.int .i64 zh, .int .u64 zl]), (1007, cw, bytesV (List.replicate (k - i) 0 ++ octL n i))] ∧ p = (i : Int) ∧ i ≤ k ∧ WideIs zh zl (n / oP i) ∧ TyAt W cw 5 ∧ q = k - i) ?_ ?_
  · exact ⟨_, _, (St.of_le' (env := [(1, .v _), (2, .p 2 _ 0), (6, .v _), (21, .v _), (22, .v _)]) (mem := [(2, _, [_, _]), (1007, _, _)]) ⟨rfl, rfl, rfl, rfl, rfl, trivial⟩ ⟨rfl, rfl, trivial⟩), 0, 0, nh, nl, rfl, rfl, Nat.zero_le _, (by rw [oP_0, Int.ediv_one]; exact hn), ty, rfl⟩
  · rintro k st w9 ⟨i, p, zh, zl, rfl, hp, hi, hw, ty, rfl⟩
    refine Wp.seq ?_
    refine wR [0] ?_
    refine p_lss rfl rfl rfl rfl rfl (fun h23 => ?_) (fun h23 => ?_)
    · refine vOrd_nil ?_
      refine Wp.seq ?_
      refine Wp.condT rfl rfl ?_
      refine Wp.skip ?_
      refine Wp.seq ?_
      refine Wp.block ?_
      refine qZ ?_
      refine Wp.seq ?_
      refine wR [0] ?_
      refine sO (fun bk10 w10 kb10 lw10 => ?_)
      try replace ty := TyAt.later ty lw10
      refine vOrd_nil ?_
      refine Wp.seq ?_
      refine wD [0, 1, 2, 3, 4, 5, 6, 7, 8] [2, 0, 0, 0, 111, 223, 447, 0, 0] (fun | 1 => fun v _ => IsW 256 v | 2 => fun v _ => ∃ q p, v = .tuple #[q, p, .int .i64 0] ∧ IsW (n / oP i / 256) q ∧ IsW (n / oP i % 256) p | _ => fun _ _ => True) (fun wd ld => ?_)
      try replace ty := TyAt.later ty ld
      refine sL ?_
      refine s_callD rfl rfl rfl (by kernel_rfl) rfl (fun wc lc => c_wof 256 (by decide) (by decide) wc) ?_
      rintro v w11 u11 h256 lw11 mw11
      try replace ty := TyAt.later ty lw11
      try replace ty := TyAt.later ty mw11
      refine s_callD rfl rfl rfl (by kernel_rfl) rfl (fun wc lc => c_wdiv ⟨_, _, rfl, hw⟩ h256 (by decide) wc) ?_
      rintro v w12 u12 ⟨q, r, rfl, ⟨qh, ql, rfl, hq⟩, rh, rl, rfl, hr⟩ lw12 mw12
      try replace ty := TyAt.later ty lw12
      try replace ty := TyAt.later ty mw12
      rw [show n / oP i / 256 = n / oP (i + 1) by rw [oP_succ, Int.ediv_ediv_of_nonneg (Int.le_of_lt (oP_pos i))]] at hq
      refine sQ 4 ?_
      refine sS (fun w13 sw13 vw13 => ?_)
      try replace ty := TyAt.sto ty sw13
      refine sS (fun w14 sw14 vw14 => ?_)
      try replace ty := TyAt.sto ty sw14
      refine vOrd_nil ?_
      have hq0 := Int.emod_nonneg (n / oP i) (show (256 : Int) ≠ 0 by decide)
      have hq1 := Int.emod_lt_of_pos (n / oP i) (show (0 : Int) < 256 by decide)
      obtain ⟨r1, r2, r3, r4, r5⟩ := hr
      obtain rfl : rl = n / oP i % 256 := by omega
      refine wQ 2 ?_
      refine aM (-9223372036854775808) 9223372036854775807 ?_
      refine sM ?_
      refine aM (-9223372036854775808) 9223372036854775807 ?_
      refine sQ 2 ?_
      refine a_conv (0) 255 (by decide) rfl rfl rfl rfl rfl rfl (by omega) (by omega) ?_
      refine sI (sz := 1) (k - 1 - i) ?_
      refine s_storeR 1007 rfl rfl rfl rfl rfl rfl (write_low (by simp only [List.length_append, List.length_replicate]; omega) _ rfl) (fun wB hsB hvB => ?_)
      replace ty := TyAt.sto ty hsB
      refine vOrd_nil ?_
      rw [show k - i = (k - 1 - i) + 1 by omega, zeros_set, ← octL_cons, show k - 1 - i = k - (i + 1) by omega]
      refine wR [0, 1] ?_
      refine aP (-9223372036854775808) 9223372036854775807 ?_
      refine sZ 1 ?_
      exact ⟨_, _, by omega, (St.of_le' (env := [(1, .v _), (2, .p 2 _ 0), (6, .v _), (21, .v _), (22, .v _)]) (mem := [(2, _, [_, _]), (1007, _, _)]) ⟨rfl, rfl, rfl, rfl, rfl, trivial⟩ ⟨rfl, rfl, trivial⟩), i + 1, _, _, _, rfl, by omega, by omega, hq, ty, rfl⟩
    · obtain rfl : i = k := by omega
      refine vOrd_nil ?_
      refine Wp.seq ?_
      refine Wp.condF rfl rfl ?_
      refine Wp.exit ?_
      refine Wp.seq ?_
      rw [Nat.sub_self]
      refine Wp.var (h := 1007) rfl (fun v7 => ?_)
      refine wZ ?_
      refine Wp.ret ⟨.inr rfl, fun lW => ⟨_, ⟨_, _, res_tmp (P := Try.prog) rfl rfl, res_tmp (P := Try.prog) rfl rfl, rfl⟩, _, rfl, ?_, lW⟩⟩
      clear lW
      rw [octL_len]
      exact ⟨_, rfl, own_of_row (ty.row v7) hcz (by rw [bytesV_len, List.replicate_zero, List.nil_append, octL_len, Nat.mul_one]) (by omega)⟩
theorem fput_any {n o : Int} {u : Value} (hn : IsW n u) (ho : I64 o) {w : World} : Calls Try.prog 51 #[u, .int .i64 o] w fun e w' => ∃ r, e = .returned r ∧ (∃ s, r = .tuple #[s, .int .i64 (fpE n o)] ∧ BytesAt w' s (fpL n o)) ∧ Below w.heap.size w w' := by
  refine (fput_own hn ho).mono ?_
  rintro e w' ⟨r, rfl, ⟨s, rfl, hs⟩, hb⟩
  exact ⟨_, rfl, ⟨_, rfl, own_octs hs⟩, hb⟩

theorem fget_any {l : List UInt8} {u : Value} {w : World} (hu : BytesAt w u l) (hl : l.length ≤ 9223372036854775807) : Calls Try.prog 36 #[u] w fun e w' => ∃ r, e = .returned r ∧ (∃ s, r = .tuple #[s, .int .i64 (fgE l)] ∧ IsW (fgZ l) s) ∧ Below w.heap.size w w' := by
  obtain ⟨ua, uc, rfl⟩ := hu.slice
  refine calls_Wp (args := [_]) (n := 33) Try.func36 rfl rfl (by simp) ?_
  refine Wp.seq ?_
  refine wR [0, 1] ?_
  refine sO (fun bk1 w1 kb1 lw1 => ?_)
  refine sZ 1 ?_
  refine Wp.seq ?_
  refine qQ 1 ?_
  refine x_len rfl rfl rfl rfl rfl ?_
  refine p_gtr rfl rfl rfl rfl rfl (fun h7 => ?_) (fun h7 => ?_)
  · refine vOrd_nil ?_
    refine Wp.condT rfl rfl ?_
    refine Wp.seq ?_
    refine wR [0, 1, 2] ?_
    refine s_build rfl rfl rfl rfl rfl rfl ?_
    refine sS (fun w3 sw3 vw3 => ?_)
    refine sZ 1 ?_
    refine Wp.ret ⟨.inr rfl, fun lW => ⟨_, ⟨_, _, res_cell rfl rfl rfl rfl, res_tmp (P := Try.prog) rfl rfl, rfl⟩, _, rfl, ?_, lW⟩⟩
    clear lW
    obtain ⟨e1, e2⟩ := fg_bad (l := l) (by omega)
    rw [e1, e2]
    exact ⟨_, rfl, _, _, rfl, by unfold WideIs; omega⟩
  · refine vOrd_nil ?_
    refine Wp.condF rfl rfl ?_
    refine Wp.skip ?_
    refine Wp.seq ?_
    refine Wp.seq ?_
    obtain ⟨e1, e2⟩ := fg_ok (l := l) (by omega)
    rw [e1, e2]
    refine wQ 1 ?_
    refine x_len rfl rfl rfl rfl rfl ?_
    refine sZ 1 ?_
    refine Wp.block ?_
    refine Wp.loop (fun q st W => ∃ (i : Nat) (p zh zl : Int), st = St.of [(0, .v (.slice ua l.length uc)), (2, .p 2 bk1 0), (10, .v (.int .i64 (l.length : Int))), (11, .v (.int .i64 p))] [(2, bk1, [.int .i64 zh, .int .u64 zl])] ∧ p = (i : Int) ∧ i ≤ l.length ∧ WideIs zh zl (numL (l.take i)) ∧ q = l.length - i) ?_ ?_
    · exact ⟨_, _, (St.of_le' (env := [(0, .v _), (2, .p 2 _ 0), (10, .v _), (11, .v _)]) (mem := [(2, _, [_, _])]) ⟨rfl, rfl, rfl, rfl, trivial⟩ ⟨rfl, trivial⟩), 0, 0, 0, 0, rfl, rfl, Nat.zero_le _, (by rw [List.take_zero, numL_nil]; unfold WideIs; omega), rfl⟩
    · rintro k st w4 ⟨i, p, zh, zl, rfl, hp, hi, hw, rfl⟩
      refine Wp.seq ?_
      refine wR [0] ?_
      refine p_lss rfl rfl rfl rfl rfl (fun h12 => ?_) (fun h12 => ?_)
      · refine vOrd_nil ?_
        refine Wp.seq ?_
        refine Wp.condT rfl rfl ?_
        refine Wp.skip ?_
        refine Wp.seq ?_
        refine Wp.block ?_
        refine qZ ?_
        refine Wp.seq ?_
        subst hp
        obtain ⟨hn0, hn1⟩ := num_take (l := l) (i := i) (by omega)
        obtain ⟨-, fv, -⟩ := fr_fit (z := numL (l.take i) * 256) (by omega) (by omega)
        have hbi := byteF_in l i
        obtain ⟨-, fv2, -⟩ := fr_fit (z := numL (l.take i) * 256 + byteF l i) (by omega) (by omega)
        refine wD [0, 1, 2, 3, 4, 5, 6] [2, 0, 0, 0, 47, 95, 0] (fun | 1 => fun v _ => IsW 256 v | 2 => fun v _ => ∃ s, v = .tuple #[s, .int .i64 (fitE (numL (l.take i) * 256))] ∧ IsW (fitV (numL (l.take i) * 256)) s | _ => fun _ _ => True) (fun _ _ => ?_)
        refine sL ?_
        refine s_callD rfl rfl rfl (by kernel_rfl) rfl (fun wc lc => c_wof 256 (by decide) (by decide) wc) ?_
        rintro v w5 u5 h256 lw5 mw5
        refine sD (fun wc lc => c_wmul ⟨_, _, rfl, hw⟩ h256 wc) ?_
        rintro v w6 u6 ⟨s, rfl, mh, ml, rfl, hm⟩ lw6 mw6
        rw [fv] at hm
        refine sQ 3 ?_
        refine sS (fun w7 sw7 vw7 => ?_)
        refine vOrd_nil ?_
        refine Wp.old (fun lq => ?_)
        have huw := hu.later lq
        obtain ⟨ub, uo, uc2, hue, huc, hcell⟩ := huw.row (by omega)
        obtain ⟨b, hb⟩ : ∃ b, l[i]? = some b := ⟨_, List.getElem?_eq_getElem (by omega)⟩
        simp only [Value.slice.injEq] at hue
        obtain ⟨rfl, -, rfl⟩ := hue
        have hci := hcell i (by omega)
        refine wD [0, 1, 2, 3, 4, 5, 6, 7, 8, 9, 10, 11] [126, 5, 0, 0, 0, 0, 0, 0, 0, 1535, 3071, 0] (fun | 6 => fun v _ => IsW (byteF l i) v | 7 => fun v _ => ∃ s, v = .tuple #[s, .int .i64 (fitE (numL (l.take i) * 256 + byteF l i))] ∧ IsW (fitV (numL (l.take i) * 256 + byteF l i)) s | _ => fun _ _ => True) (fun wd ld => ?_)
        refine sQ 3 ?_
        refine sI (sz := 1) (uo + i) ?_
        refine xC (cell_later ld hci) ?_
        refine a_conv (-9223372036854775808) 9223372036854775807 (by decide) rfl rfl rfl rfl rfl rfl (by omega) (by omega) ?_
        refine s_callD rfl rfl rfl (by kernel_rfl) rfl (fun wc lc => c_wof (byteF l i) (by omega) (by omega) wc) ?_
        rintro v w10 u10 h3 lw10 mw10
        refine sD (fun wc lc => c_wadd ⟨_, _, rfl, hm⟩ h3 wc) ?_
        rintro v w11 u11 ⟨s, rfl, sh, sl, rfl, hs⟩ lw11 mw11
        rw [fv2, show numL (l.take i) * 256 + byteF l i = numL (l.take (i + 1)) by rw [take_snocB hb, numL_snoc, byteF_at hb]] at hs
        refine sQ 3 ?_
        refine sS (fun w12 sw12 vw12 => ?_)
        refine vOrd_nil ?_
        refine wR [0, 1] ?_
        refine aP (-9223372036854775808) 9223372036854775807 ?_
        refine sZ 1 ?_
        exact ⟨_, _, by omega, (St.of_le' (env := [(0, .v _), (2, .p 2 _ 0), (10, .v _), (11, .v _)]) (mem := [(2, _, [_, _])]) ⟨rfl, rfl, rfl, rfl, trivial⟩ ⟨rfl, trivial⟩), i + 1, _, _, _, rfl, by omega, by omega, hs, rfl⟩
      · obtain rfl : i = l.length := by omega
        rw [List.take_length] at hw
        refine vOrd_nil ?_
        refine Wp.seq ?_
        refine Wp.condF rfl rfl ?_
        refine Wp.exit ?_
        refine qQ 1 ?_
        refine sS (fun w13 sw13 vw13 => ?_)
        refine sZ 1 ?_
        refine Wp.ret ⟨.inr rfl, fun lW => ⟨_, ⟨_, _, res_cell rfl rfl rfl rfl, res_tmp (P := Try.prog) rfl rfl, rfl⟩, _, rfl, ?_, lW⟩⟩
        clear lW
        exact ⟨_, rfl, _, _, rfl, hw⟩

end Go.Proofs.Ytlpenfganhaclaa
