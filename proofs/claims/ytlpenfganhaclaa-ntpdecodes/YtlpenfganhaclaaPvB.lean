/-
  The program's contracts of layer 18 (P18.1, P18.2): Fold, Near, and what Near stands on: begin and next. Of any Wides.
-/
import Derived.Test.YtlpenfganhaclaaPvA
namespace Go.Proofs.Ytlpenfganhaclaa
open Go.RowKit
set_option maxRecDepth 100000

theorem pv_fit {z : Int} (h0 : -170141183460469231731687303715884105728 ≤ z) (h1 : z < 170141183460469231731687303715884105728) : fitV z = z ∧ fitE z = 0 := by
  have h : inW z = true := by unfold inW; rw [decide_eq_true_iff]; exact ⟨h0, h1⟩
  unfold fitV fitE; rw [if_pos h, if_pos h]; exact ⟨rfl, rfl⟩
theorem pv_yes {z : Int} (h : inW z = true) : fitV z = z ∧ fitE z = 0 := by unfold fitV fitE; rw [if_pos h, if_pos h]; exact ⟨rfl, rfl⟩
theorem pv_no {z : Int} (h : inW z = false) : fitV z = 0 ∧ fitE z = 2 := by unfold fitV fitE; rw [h]; exact ⟨rfl, rfl⟩
/-- Folded ahead of the difference or behind it: the same is left. -/
theorem pv_gap (f z n : Int) : (f - z % n) % n = (f - z) % n := by
  rw [Int.sub_emod, Int.emod_emod_of_dvd _ (Int.dvd_refl n), ← Int.sub_emod]
theorem pv_div {m n : Int} {u v : Value} (hm : IsW m u) (hn : IsW n v) (w : World) : Calls Try.prog 20 #[u, v] w fun e w' => ∃ r, e = .returned r ∧ (∃ q p, r = .tuple #[q, p, .int .i64 (pfE n)] ∧ (∃ z, IsW z q) ∧ IsW (pfZ m n) p) ∧ Below w.heap.size w w' := by
  by_cases h0 : n ≤ 0
  · obtain ⟨e1, e2⟩ := pf_zero (m := m) h0
    rw [e1, e2]
    obtain ⟨_, _, rfl, hm⟩ := hm
    obtain ⟨_, _, rfl, hn⟩ := hn
    refine (wdiv_zero hn h0 w).mono ?_
    rintro e w' ⟨rfl, hb⟩
    exact ⟨_, rfl, ⟨_, _, rfl, ⟨0, _, _, rfl, by unfold WideIs; omega⟩, _, _, rfl, by unfold WideIs; omega⟩, hb⟩
  · obtain ⟨e1, e2⟩ := pf_ok (m := m) (n := n) (by omega)
    rw [e1, e2]
    refine (c_wdiv hm hn (by omega) w).mono ?_
    rintro e w' ⟨r, rfl, ⟨q, p, rfl, hq, hp⟩, hb⟩
    exact ⟨_, rfl, ⟨_, _, rfl, ⟨_, hq⟩, hp⟩, hb⟩
theorem pfold_any {m n : Int} {u v : Value} (hm : IsW m u) (hn : IsW n v) {w : World} : Calls Try.prog 23 #[u, v] w fun e w' => ∃ r, e = .returned r ∧ (∃ s, r = .tuple #[s, .int .i64 (pfE n)] ∧ IsW (pfZ m n) s) ∧ Below w.heap.size w w' := by
  obtain ⟨_, _, rfl, hm⟩ := hm
  obtain ⟨_, _, rfl, hn⟩ := hn
  refine calls_Wp (args := [_, _]) (n := 18) Try.func23 rfl rfl (by simp) ?_
  refine Wp.seq ?_
  refine wR [0, 1, 2, 3] ?_
  refine sE (fun bk1 w1 kb1 lw1 => ?_)
  refine sE (fun bk2 w2 kb2 lw2 => ?_)
  refine sO (fun bk3 w3 kb3 lw3 => ?_)
  refine sZ 1 ?_
  refine qQ 2 ?_
  refine sT (pv_div ⟨_, _, rfl, hm⟩ ⟨_, _, rfl, hn⟩ _) ?_
  rintro v w4 ⟨q, p, rfl, ⟨zq, qh, ql, rfl, hq⟩, ph, pl, rfl, hp⟩ lw4
  refine sQ 4 ?_
  refine sO (fun bk5 w5 kb5 lw5 => ?_)
  refine sO (fun bk6 w6 kb6 lw6 => ?_)
  refine sS (fun w7 sw7 vw7 => ?_)
  refine sS (fun w8 sw8 vw8 => ?_)
  refine sZ 1 ?_
  refine qQ 2 ?_
  refine sS (fun w9 sw9 vw9 => ?_)
  refine sZ 1 ?_
  refine Wp.ret ⟨.inr rfl, fun lW => ⟨_, ⟨_, _, res_cell rfl rfl rfl rfl, res_tmp (P := Try.prog) rfl rfl, rfl⟩, _, rfl, ?_, lW⟩⟩
  clear lW
  exact ⟨_, rfl, _, _, rfl, hp⟩
theorem pbegin_any {n p : Int} {u v : Value} (hn : IsW n u) (hp : IsW p v) {w : World} : Calls Try.prog 59 #[u, v] w fun e w' => ∃ r, e = .returned r ∧ (∃ s, r = .tuple #[s, .int .i64 (fitE (p - n / 2))] ∧ IsW (fitV (p - n / 2)) s) ∧ Below w.heap.size w w' := by
  obtain ⟨_, _, rfl, hn⟩ := hn
  obtain ⟨_, _, rfl, hp⟩ := hp
  refine calls_Wp (args := [_, _]) (n := 21) Try.func59 rfl rfl (by simp) ?_
  refine Wp.seq ?_
  refine wR [0, 1, 2, 3] ?_
  refine sE (fun bk1 w1 kb1 lw1 => ?_)
  refine sE (fun bk2 w2 kb2 lw2 => ?_)
  refine sO (fun bk3 w3 kb3 lw3 => ?_)
  refine sZ 1 ?_
  refine Wp.seq ?_
  refine wD [0, 7, 8, 1, 2, 3, 4, 5, 6, 9, 10, 11] [386, 383, 255, 0, 0, 0, 495, 991, 1983, 0, 0, 0] (fun | 1 => fun v _ => IsW 2 v | 2 => fun v _ => ∃ q r, v = .tuple #[q, r, .int .i64 0] ∧ IsW (n / 2) q ∧ IsW (n % 2) r | _ => fun _ _ => True) (fun _ _ => ?_)
  refine sL ?_
  refine sO (fun bk4 w4 kb4 lw4 => ?_)
  refine sO (fun bk5 w5 kb5 lw5 => ?_)
  refine s_callD rfl rfl rfl (by kernel_rfl) rfl (fun wc lc => c_wof 2 (by decide) (by decide) wc) ?_
  rintro v w6 u6 h2 lw6 mw6
  refine s_callD rfl rfl rfl (by kernel_rfl) rfl (fun wc lc => c_wdiv ⟨_, _, rfl, hn⟩ h2 (by decide) wc) ?_
  rintro v w7 u7 ⟨q, r, rfl, ⟨qh, ql, rfl, hq⟩, rh, rl, rfl, hr⟩ lw7 mw7
  refine sQ 4 ?_
  refine sS (fun w8 sw8 vw8 => ?_)
  refine sS (fun w9 sw9 vw9 => ?_)
  refine sZ 1 ?_
  refine qQ 2 ?_
  refine sT (c_wsub ⟨_, _, rfl, hp⟩ ⟨_, _, rfl, hq⟩ _) ?_
  rintro v w10 ⟨s, rfl, sh, sl, rfl, hs⟩ lw10
  refine sQ 2 ?_
  refine sS (fun w11 sw11 vw11 => ?_)
  refine sZ 1 ?_
  refine Wp.ret ⟨.inr rfl, fun lW => ⟨_, ⟨_, _, res_cell rfl rfl rfl rfl, res_tmp (P := Try.prog) rfl rfl, rfl⟩, _, rfl, ?_, lW⟩⟩
  clear lW
  exact ⟨_, rfl, _, _, rfl, hs⟩
theorem pnext_any {z f n : Int} {u v x : Value} (hz : IsW z u) (hf : IsW f v) (hn : IsW n x) (h0 : 0 < n) (hk : 0 ≤ f ∧ f < n) {w : World} : Calls Try.prog 60 #[u, v, x] w fun e w' => ∃ r, e = .returned r ∧ (∃ s, r = .tuple #[s, .int .i64 (fitE (z + (f - z) % n))] ∧ IsW (fitV (z + (f - z) % n)) s) ∧ Below w.heap.size w w' := by
  obtain ⟨_, _, rfl, hz⟩ := hz
  obtain ⟨_, _, rfl, hf⟩ := hf
  obtain ⟨_, _, rfl, hn⟩ := hn
  have hn' := id hn
  obtain ⟨_, _, _, _, _⟩ := hn'
  obtain ⟨-, a2⟩ := pf_ok (m := z) h0
  obtain ⟨-, b2⟩ := pf_ok (m := f - z % n) h0
  have h1 := Int.emod_nonneg z (show n ≠ 0 by omega)
  have h2 := Int.emod_lt_of_pos z h0
  obtain ⟨f1, -⟩ := pv_fit (z := f - z % n) (by omega) (by omega)
  have g := pv_gap f z n
  refine calls_Wp (args := [_, _, _]) (n := 37) Try.func60 rfl rfl (by simp) ?_
  refine Wp.seq ?_
  refine wR [0, 1, 2, 3, 4] ?_
  refine sE (fun bk1 w1 kb1 lw1 => ?_)
  refine sE (fun bk2 w2 kb2 lw2 => ?_)
  refine sE (fun bk3 w3 kb3 lw3 => ?_)
  refine sO (fun bk4 w4 kb4 lw4 => ?_)
  refine sZ 1 ?_
  refine qQ 2 ?_
  refine sT (pfold_any ⟨_, _, rfl, hz⟩ ⟨_, _, rfl, hn⟩) ?_
  rintro v w5 ⟨xu, rfl, xh, xl, rfl, hx⟩ lw5
  rw [a2] at hx
  refine sQ 3 ?_
  refine sO (fun bk6 w6 kb6 lw6 => ?_)
  refine sS (fun w7 sw7 vw7 => ?_)
  refine sZ 1 ?_
  refine qQ 2 ?_
  refine sT (c_wsub ⟨_, _, rfl, hf⟩ ⟨_, _, rfl, hx⟩ _) ?_
  rintro v w8 ⟨yu, rfl, yh, yl, rfl, hy⟩ lw8
  rw [f1] at hy
  refine sQ 3 ?_
  refine sO (fun bk9 w9 kb9 lw9 => ?_)
  refine sS (fun w10 sw10 vw10 => ?_)
  refine sZ 1 ?_
  refine qQ 2 ?_
  refine sT (pfold_any ⟨_, _, rfl, hy⟩ ⟨_, _, rfl, hn⟩) ?_
  rintro v w11 ⟨ou, rfl, oh, ol, rfl, ho⟩ lw11
  rw [b2, g] at ho
  refine sQ 3 ?_
  refine sO (fun bk12 w12 kb12 lw12 => ?_)
  refine sS (fun w13 sw13 vw13 => ?_)
  refine sZ 1 ?_
  refine qQ 2 ?_
  refine sT (c_wadd ⟨_, _, rfl, hz⟩ ⟨_, _, rfl, ho⟩ _) ?_
  rintro v w14 ⟨s, rfl, sh, sl, rfl, hs⟩ lw14
  refine sQ 2 ?_
  refine sS (fun w15 sw15 vw15 => ?_)
  refine sZ 1 ?_
  refine Wp.ret ⟨.inr rfl, fun lW => ⟨_, ⟨_, _, res_cell rfl rfl rfl rfl, res_tmp (P := Try.prog) rfl rfl, rfl⟩, _, rfl, ?_, lW⟩⟩
  clear lW
  exact ⟨_, rfl, _, _, rfl, hs⟩
theorem pnear_any {f n p : Int} {u v x : Value} (hf : IsW f u) (hn : IsW n v) (hp : IsW p x) {w : World} : Calls Try.prog 38 #[u, v, x] w fun e w' => ∃ r, e = .returned r ∧ (∃ s, r = .tuple #[s, .int .i64 (pnE f n p)] ∧ IsW (pnZ f n p) s) ∧ Below w.heap.size w w' := by
  obtain ⟨_, _, rfl, hf⟩ := hf
  obtain ⟨_, _, rfl, hn⟩ := hn
  obtain ⟨_, _, rfl, hp⟩ := hp
  by_cases h0 : n ≤ 0
  · obtain ⟨e1, -⟩ := pf_zero (m := f) h0
    obtain ⟨k1, k2⟩ := pn_zero (f := f) (p := p) h0
    rw [k1, k2]
    refine calls_Wp (args := [_, _, _]) (n := 41) Try.func38 rfl rfl (by simp) ?_
    refine Wp.seq ?_
    refine wR [0, 1, 2, 3, 4] ?_
    refine sE (fun bk1 w1 kb1 lw1 => ?_)
    refine sE (fun bk2 w2 kb2 lw2 => ?_)
    refine sE (fun bk3 w3 kb3 lw3 => ?_)
    refine sO (fun bk4 w4 kb4 lw4 => ?_)
    refine sZ 1 ?_
    refine qQ 2 ?_
    refine sT (pfold_any ⟨_, _, rfl, hf⟩ ⟨_, _, rfl, hn⟩) ?_
    rintro v w5 ⟨lu, rfl, lh, ll, rfl, hl⟩ lw5
    rw [e1]
    refine sQ 3 ?_
    refine sO (fun bk6 w6 kb6 lw6 => ?_)
    refine sS (fun w7 sw7 vw7 => ?_)
    refine sZ 1 ?_
    refine Wp.seq ?_
    refine qQ 1 ?_
    refine t_neq rfl rfl rfl rfl rfl (by omega) ?_
    refine vOrd_nil ?_
    refine Wp.condT rfl rfl ?_
    refine Wp.seq ?_
    refine wR [0, 1, 2, 3] ?_
    refine sB ?_
    refine sM ?_
    refine sS (fun w8 sw8 vw8 => ?_)
    refine sZ 1 ?_
    refine Wp.ret ⟨.inr rfl, fun lW => ⟨_, ⟨_, _, res_cell rfl rfl rfl rfl, res_tmp (P := Try.prog) rfl rfl, rfl⟩, _, rfl, ?_, lW⟩⟩
    clear lW
    exact ⟨_, rfl, _, _, rfl, by unfold WideIs; omega⟩
  · have h0 : 0 < n := by omega
    obtain ⟨e1, e2⟩ := pf_ok (m := f) h0
    by_cases hk : f < 0 ∨ n ≤ f
    · obtain ⟨k1, k2⟩ := pn_arg (p := p) h0 hk
      rw [k1, k2]
      have hne : f % n ≠ f := fun q => by have := Int.emod_nonneg f (show n ≠ 0 by omega); have := Int.emod_lt_of_pos f h0; omega
      refine calls_Wp (args := [_, _, _]) (n := 41) Try.func38 rfl rfl (by simp) ?_
      refine Wp.seq ?_
      refine wR [0, 1, 2, 3, 4] ?_
      refine sE (fun bk1 w1 kb1 lw1 => ?_)
      refine sE (fun bk2 w2 kb2 lw2 => ?_)
      refine sE (fun bk3 w3 kb3 lw3 => ?_)
      refine sO (fun bk4 w4 kb4 lw4 => ?_)
      refine sZ 1 ?_
      refine qQ 2 ?_
      refine sT (pfold_any ⟨_, _, rfl, hf⟩ ⟨_, _, rfl, hn⟩) ?_
      rintro v w5 ⟨lu, rfl, lh, ll, rfl, hl⟩ lw5
      rw [e1]
      rw [e2] at hl
      refine sQ 3 ?_
      refine sO (fun bk6 w6 kb6 lw6 => ?_)
      refine sS (fun w7 sw7 vw7 => ?_)
      refine sZ 1 ?_
      refine Wp.seq ?_
      refine qQ 1 ?_
      refine f_neq rfl rfl rfl rfl rfl (by omega) ?_
      refine vOrd_nil ?_
      refine Wp.condF rfl rfl ?_
      refine Wp.skip ?_
      refine Wp.seq ?_
      refine qQ 2 ?_
      refine s_eqv (c := true) rfl rfl rfl rfl rfl (fun _ => by kernel_rfl) (fun w => by simp only [run_neq_wide, eqL_not hl hf hne, Bool.not_false]) ?_
      refine vOrd_nil ?_
      refine Wp.condT rfl rfl ?_
      refine Wp.seq ?_
      refine wR [0, 1, 2] ?_
      refine sB ?_
      refine sS (fun w9 sw9 vw9 => ?_)
      refine sZ 1 ?_
      refine Wp.ret ⟨.inr rfl, fun lW => ⟨_, ⟨_, _, res_cell rfl rfl rfl rfl, res_tmp (P := Try.prog) rfl rfl, rfl⟩, _, rfl, ?_, lW⟩⟩
      clear lW
      exact ⟨_, rfl, _, _, rfl, by unfold WideIs; omega⟩
    · have hk : 0 ≤ f ∧ f < n := by omega
      have he : f % n = f := Int.emod_eq_of_lt hk.1 hk.2
      rw [he] at e2
      cases hw : inW (p - n / 2) with
      | false =>
        obtain ⟨k1, k2⟩ := pn_over (p := p) h0 hk (fun q => by rw [hw] at q; cases q.1)
        rw [k1, k2]
        obtain ⟨-, g2⟩ := pv_no hw
        refine calls_Wp (args := [_, _, _]) (n := 41) Try.func38 rfl rfl (by simp) ?_
        refine Wp.seq ?_
        refine wR [0, 1, 2, 3, 4] ?_
        refine sE (fun bk1 w1 kb1 lw1 => ?_)
        refine sE (fun bk2 w2 kb2 lw2 => ?_)
        refine sE (fun bk3 w3 kb3 lw3 => ?_)
        refine sO (fun bk4 w4 kb4 lw4 => ?_)
        refine sZ 1 ?_
        refine qQ 2 ?_
        refine sT (pfold_any ⟨_, _, rfl, hf⟩ ⟨_, _, rfl, hn⟩) ?_
        rintro v w5 ⟨lu, rfl, lh, ll, rfl, hl⟩ lw5
        rw [e1]
        rw [e2] at hl
        refine sQ 3 ?_
        refine sO (fun bk6 w6 kb6 lw6 => ?_)
        refine sS (fun w7 sw7 vw7 => ?_)
        refine sZ 1 ?_
        refine Wp.seq ?_
        refine qQ 1 ?_
        refine f_neq rfl rfl rfl rfl rfl (by omega) ?_
        refine vOrd_nil ?_
        refine Wp.condF rfl rfl ?_
        refine Wp.skip ?_
        refine Wp.seq ?_
        refine qQ 2 ?_
        refine s_eqv (c := false) rfl rfl rfl rfl rfl (fun _ => by kernel_rfl) (fun w => by simp only [run_neq_wide, eqW_same hl hf, Bool.not_true]) ?_
        refine vOrd_nil ?_
        refine Wp.condF rfl rfl ?_
        refine Wp.skip ?_
        refine qQ 2 ?_
        refine sT (pbegin_any ⟨_, _, rfl, hn⟩ ⟨_, _, rfl, hp⟩) ?_
        rintro v w9 ⟨bu, rfl, bh, bl, rfl, hb⟩ lw9
        rw [g2]
        refine sQ 3 ?_
        refine sO (fun bk10 w10 kb10 lw10 => ?_)
        refine sS (fun w11 sw11 vw11 => ?_)
        refine sZ 1 ?_
        refine Wp.seq ?_
        refine qQ 1 ?_
        refine t_neq rfl rfl rfl rfl rfl (by omega) ?_
        refine vOrd_nil ?_
        refine Wp.condT rfl rfl ?_
        refine Wp.seq ?_
        refine wR [0, 1, 2, 3] ?_
        refine sB ?_
        refine sM ?_
        refine sS (fun w12 sw12 vw12 => ?_)
        refine sZ 1 ?_
        refine Wp.ret ⟨.inr rfl, fun lW => ⟨_, ⟨_, _, res_cell rfl rfl rfl rfl, res_tmp (P := Try.prog) rfl rfl, rfl⟩, _, rfl, ?_, lW⟩⟩
        clear lW
        exact ⟨_, rfl, _, _, rfl, by unfold WideIs; omega⟩
      | true =>
        obtain ⟨g1, g2⟩ := pv_yes hw
        have hs : pnE f n p = fitE (p - n / 2 + (f - (p - n / 2)) % n) ∧ pnZ f n p = fitV (p - n / 2 + (f - (p - n / 2)) % n) := by
          cases hv : inW (pnI f n p) with
          | false =>
            obtain ⟨k1, k2⟩ := pn_over (p := p) h0 hk (fun q => by rw [hv] at q; cases q.2)
            obtain ⟨j1, j2⟩ := pv_no hv
            exact ⟨k1.trans j2.symm, k2.trans j1.symm⟩
          | true =>
            obtain ⟨k1, k2⟩ := pn_ok (p := p) h0 hk ⟨hw, hv⟩
            obtain ⟨j1, j2⟩ := pv_yes hv
            exact ⟨k1.trans j2.symm, k2.trans j1.symm⟩
        rw [hs.1, hs.2]
        refine calls_Wp (args := [_, _, _]) (n := 41) Try.func38 rfl rfl (by simp) ?_
        refine Wp.seq ?_
        refine wR [0, 1, 2, 3, 4] ?_
        refine sE (fun bk1 w1 kb1 lw1 => ?_)
        refine sE (fun bk2 w2 kb2 lw2 => ?_)
        refine sE (fun bk3 w3 kb3 lw3 => ?_)
        refine sO (fun bk4 w4 kb4 lw4 => ?_)
        refine sZ 1 ?_
        refine qQ 2 ?_
        refine sT (pfold_any ⟨_, _, rfl, hf⟩ ⟨_, _, rfl, hn⟩) ?_
        rintro v w5 ⟨lu, rfl, lh, ll, rfl, hl⟩ lw5
        rw [e1]
        rw [e2] at hl
        refine sQ 3 ?_
        refine sO (fun bk6 w6 kb6 lw6 => ?_)
        refine sS (fun w7 sw7 vw7 => ?_)
        refine sZ 1 ?_
        refine Wp.seq ?_
        refine qQ 1 ?_
        refine f_neq rfl rfl rfl rfl rfl (by omega) ?_
        refine vOrd_nil ?_
        refine Wp.condF rfl rfl ?_
        refine Wp.skip ?_
        refine Wp.seq ?_
        refine qQ 2 ?_
        refine s_eqv (c := false) rfl rfl rfl rfl rfl (fun _ => by kernel_rfl) (fun w => by simp only [run_neq_wide, eqW_same hl hf, Bool.not_true]) ?_
        refine vOrd_nil ?_
        refine Wp.condF rfl rfl ?_
        refine Wp.skip ?_
        refine qQ 2 ?_
        refine sT (pbegin_any ⟨_, _, rfl, hn⟩ ⟨_, _, rfl, hp⟩) ?_
        rintro v w9 ⟨bu, rfl, bh, bl, rfl, hb⟩ lw9
        rw [g2]
        rw [g1] at hb
        refine sQ 3 ?_
        refine sO (fun bk10 w10 kb10 lw10 => ?_)
        refine sS (fun w11 sw11 vw11 => ?_)
        refine sZ 1 ?_
        refine Wp.seq ?_
        refine qQ 1 ?_
        refine f_neq rfl rfl rfl rfl rfl (by omega) ?_
        refine vOrd_nil ?_
        refine Wp.condF rfl rfl ?_
        refine Wp.skip ?_
        refine qQ 3 ?_
        refine sT (pnext_any ⟨_, _, rfl, hb⟩ ⟨_, _, rfl, hf⟩ ⟨_, _, rfl, hn⟩ h0 hk) ?_
        rintro v w12 ⟨xu, rfl, xh, xl, rfl, hx⟩ lw12
        refine sQ 2 ?_
        refine sS (fun w13 sw13 vw13 => ?_)
        refine sZ 1 ?_
        refine Wp.ret ⟨.inr rfl, fun lW => ⟨_, ⟨_, _, res_cell rfl rfl rfl rfl, res_tmp (P := Try.prog) rfl rfl, rfl⟩, _, rfl, ?_, lW⟩⟩
        clear lW
        exact ⟨_, rfl, _, _, rfl, hx⟩
end Go.Proofs.Ytlpenfganhaclaa
