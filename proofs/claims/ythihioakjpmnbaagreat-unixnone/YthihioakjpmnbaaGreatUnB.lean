/-
 The contracts of unix (P17.1 to P17.4). Of tables that may be; what is asked less than 700000 times.
-/
import Derived.Test.YthihioakjpmnbaaGreatUnR
import Derived.Test.YthihioakjpmnbaaGreatClB
import Derived.Test.YthihioakjpmnbaaGreatVcL
namespace Go.Proofs.YthihioakjpmnbaaGreat
open Go.RowKit
set_option maxRecDepth 100000

theorem inB_near {z : Int} (h : inB (dayZ z) = true) : -100000000000000000000000000000000000 ≤ z ∧ z ≤ 100000000000000000000000000000000000 := by
 have := inB_iff.1 h
 unfold dayZ at this
 omega
theorem AllMem.argsC {p : Nat → Prop} {b : Nat} {cs args : List Value} (h : p b) : AllMem p (St.argsC b cs args) := fun q c ds e => by
 simp only [St.argsC] at e
 cases hh : Nat.beq q 899 with
 | false => rw [hh] at e; cases e
 | true => rw [hh] at e; cases e; exact h
theorem Eras.past {w w' : World} {b r q : Nat} {v : Value} {es : List Ent} (h : Eras w b r v es) (l : w.grownBy w' (some q)) (hq : r ≠ q) : Eras w' b r v es := by
 obtain ⟨cr, cs, h1, h2, h3, h4, h5⟩ := h
 exact ⟨cr, cs, h1, h2, h3, h4.grown l (by simpa using hq), h5⟩
theorem Lp.past {w w' : World} {b c q : Nat} {R : Option Nat} {t : Tb} {k : Int} (h : Lp w b c R t k) (l : w.grownBy w' (some q)) (hq : b ≠ q ∧ c ≠ q ∧ R ≠ some q) : Lp w' b c R t k := by
 obtain ⟨d, v, h1, h2, h3, h4⟩ := h
 exact ⟨d, v, h1.grown l (by simpa using hq.1), h2.grown l (by simpa using hq.2.1), h3, h4.imp id (fun ⟨q1, r, q2, q3⟩ => ⟨q1, r, q2, q3.past l (fun e => hq.2.2 (by rw [q2, e]))⟩)⟩
theorem CkB.past {w w' : World} {h b q : Nat} {hs : List Nat} {t : Tb} (H : CkB w h b hs t) (s : w.grownBy w' (some q)) (hq : ∀ x ∈ h :: hs, x ≠ q) : CkB w' h b hs t := by
 obtain ⟨h1, rp, h2, h3⟩ := H
 refine ⟨h1, rp, h2.grown s (by simpa using hq h (by simp)), ?_⟩
 rcases h3 with g | ⟨q1, r, rs, q3, q4, q5⟩
 ·exact .inl g
 ·subst q4; exact .inr ⟨q1, r, rs, q3, rfl, q5.grown s (fun x hx => hq x (List.mem_cons_of_mem _ hx))⟩
/-- A row of the call's own lies beside the clock. -/
def Aside (w : World) (h b c : Nat) (R : Option Nat) (hs : List Nat) (v : Value) : Prop := ∀ q, v.ownBlock = some q → Ckn h b c R hs q ∧ q < w.heap.size
theorem Aside.more {w w' : World} {h b c : Nat} {R : Option Nat} {hs : List Nat} {v : Value} (H : Aside w h b c R hs v) (l : w.heap.size ≤ w'.heap.size) : Aside w' h b c R hs v := fun q e => ⟨(H q e).1, Nat.lt_of_lt_of_le (H q e).2 l⟩
theorem Aside.next {w w' : World} {h b c : Nat} {R R' : Option Nat} {hs : List Nat} {v : Value} (H : Aside w h b c R hs v) (hN : Nx w R R') (l : w.heap.size ≤ w'.heap.size) : Aside w' h b c R' hs v := fun q e =>
 ⟨⟨⟨(H q e).1.1.1, (H q e).1.1.2.1, hN.ne (H q e).1.1.2.2 (H q e).2⟩, (H q e).1.2⟩, Nat.lt_of_lt_of_le (H q e).2 l⟩
theorem Aside.laid {w w' : World} {h b c q n m : Nat} {R : Option Nat} {hs : List Nat} {t : Tb} {k : Int} (H : Ck w h b c R hs t k) (hc : w.heap.size ≤ q) (hlt : q < w'.heap.size) : Aside w' h b c R hs (.slice (some ⟨q, 0, none⟩) n m) := fun x e => by
 have e' : q = x := Option.some.inj e
 subst e'
 exact ⟨H.ne hc, hlt⟩
theorem Aside.app {w w' : World} {h b c base n : Nat} {R : Option Nat} {hs : List Nat} {t : Tb} {k : Int} {v v' : Value} {e : TypeId} {sz : Nat} {xs : List Value} (A : Aside w h b c R hs v) (H : Ck w h b c R hs t k) (hat : v'.ownBlock = v.ownBlock ∨ v'.ownBlock = some w.heap.size) (ho : w'.ownsRow base e sz v' n xs) : Aside w' h b c R hs v' := fun q hq => by
 refine ⟨?_, (ho.lt q hq).2⟩
 rcases hat with e | e
 ·exact (A q (by rw [← e]; exact hq)).1
 ·rw [e] at hq
  cases hq
  exact H.ne (Nat.le_refl _)
theorem Ck.app {w w' : World} {h b c : Nat} {R : Option Nat} {hs : List Nat} {t : Tb} {k : Int} {v : Value} (H : Ck w h b c R hs t k) (A : Aside w h b c R hs v) (g : w.grownBy w' v.ownBlock) : Ck w' h b c R hs t k := by
 cases hv : v.ownBlock with
 | none => rw [hv] at g; exact H.later (later_of_grown g)
 | some q =>
  rw [hv] at g
  have hq := (A q hv).1
  exact ⟨H.1.past g hq.1, H.2.past g hq.2⟩
theorem at_ne {w : World} {v v' : Value} {c : Nat} (hv : v'.ownBlock = v.ownBlock ∨ v'.ownBlock = some w.heap.size) (hne : v.ownBlock ≠ some c) (hc : c < w.heap.size) : v'.ownBlock ≠ some c := by
 rcases hv with e | e
 ·rw [e]; exact hne
 ·rw [e]; simp only [ne_eq, Option.some.injEq]; omega
theorem take_atB {cs vs : List Value} {m : Nat} (h : cs.take m = vs) {k : Nat} {u : Value} (hk : vs[k]? = some u) : cs[k]? = some u := by
 subst h
 rw [List.getElem?_take] at hk
 split at hk
 ·exact hk
 ·cases hk
theorem un_lab {d s a : Int} (h : 0 ≤ s ∧ s ≤ 86400) : unE d s a = labE d 0 a := by
 have e : isU s a = isL 0 a := by
  rcases Bool.eq_false_or_eq_true (isL 0 a) with q | q
  ·have := isL_iff.1 q
   rw [q]; exact isU_iff.2 (by omega)
  ·rw [q]
   refine isU_no.2 (fun x => ?_)
   rw [isL_iff.2 (by omega)] at q
   cases q
 unfold unE labE
 rw [e]
theorem lab_zero {d s a : Int} (h : labE d s a = 0) : isL s a = true ∧ inB d = true := by
 cases p : isL s a with
 | false => rw [(lab_bad p).1] at h; omega
 | true =>
  cases q : inB d with
  | false => rw [(lab_far p q).1] at h; omega
  | true => exact ⟨rfl, rfl⟩

theorem unlater_any {n z : Int} {u : Value} (hn : I64 n) (hz : IsW z u) {w : World} : Calls Tryz.prog 30 #[u, .int .i64 n] w fun e w' => ∃ r, e = .returned r ∧ (∃ v, r = .tuple #[v, .int .i64 (fitE (z + n * 1000000000000000000))] ∧ IsW (fitV (z + n * 1000000000000000000)) v) ∧ Below w.heap.size w w' := by
 obtain ⟨uh, ul, rfl, hz⟩ := hz
 obtain ⟨hn0, hn1⟩ := hn
 obtain ⟨f1, f2⟩ := fit_ok (z := n * 1000000000000000000) (by omega) (by omega)
 refine calls_Wp (args := [_, _]) (n := 20) Tryz.func30 rfl rfl (by simp) ?_
 refine Wp.seq ?_
 refine wR [0, 1, 2] ?_
 refine sE (fun bk1 w1 kb1 lw1 => ?_)
 refine sO (fun bk2 w2 kb2 lw2 => ?_)
 refine sZ 1 ?_
 refine qQ 1 ?_
 refine s_callT rfl rfl rfl (by kernel_rfl) rfl (c_wof n (by omega) (by omega) _) ?_
 rintro v w3 k1 lw3
 refine s_callT rfl rfl rfl (by kernel_rfl) rfl (c_wof 1000000000000000000 (by decide) (by decide) _) ?_
 rintro v w4 k2 lw4
 refine sT (c_wmul k1 k2 _) ?_
 rintro v w5 ⟨mu, rfl, mh, ml, rfl, k3⟩ lw5
 rw [f2]
 rw [f1] at k3
 refine sQ 3 ?_
 refine sO (fun bk6 w6 kb6 lw6 => ?_)
 refine sS (fun w7 sw7 vw7 => ?_)
 refine sZ 1 ?_
 refine qQ 2 ?_
 refine sT (c_wadd ⟨_, _, rfl, hz⟩ ⟨_, _, rfl, k3⟩ _) ?_
 rintro v w8 ⟨su, rfl, sh, sl, rfl, k5⟩ lw8
 refine sQ 2 ?_
 refine sS (fun w9 sw9 vw9 => ?_)
 refine sZ 1 ?_
 refine Wp.ret ⟨.inr rfl, fun lW => ⟨_, ⟨_, _, res_cell rfl rfl rfl rfl, res_tmp (P := Tryz.prog) rfl rfl, rfl⟩, _, rfl, ?_, lW⟩⟩
 clear lW
 exact ⟨_, rfl, _, _, rfl, k5⟩
theorem unntp_any {z : Int} {u : Value} (hz : IsW z u) {w : World} : Calls Tryz.prog 23 #[u] w fun e w' => ∃ r, e = .returned r ∧ (∃ v, r = .tuple #[v, .int .i64 (fitE (z + cnt 0 2208988800 0))] ∧ IsW (fitV (z + cnt 0 2208988800 0)) v) ∧ Below w.heap.size w w' := by
 obtain ⟨uh, ul, rfl, hz⟩ := hz
 have hc : z + 2208988800 * 1000000000000000000 = z + cnt 0 2208988800 0 := by unfold cnt; omega
 refine calls_Wp (args := [_]) (n := 8) Tryz.func23 rfl rfl (by simp) ?_
 refine Wp.seq ?_
 refine wR [0, 1, 2] ?_
 refine sE (fun bk1 w1 kb1 lw1 => ?_)
 refine sO (fun bk2 w2 kb2 lw2 => ?_)
 refine sZ 1 ?_
 refine qQ 1 ?_
 refine sT (unlater_any (n := 2208988800) ⟨by decide, by decide⟩ ⟨_, _, rfl, hz⟩) ?_
 rintro v w3 ⟨su, rfl, sh, sl, rfl, k2⟩ lw3
 rw [hc] at k2 ⊢
 refine sQ 2 ?_
 refine sS (fun w4 sw4 vw4 => ?_)
 refine sZ 1 ?_
 refine Wp.ret ⟨.inr rfl, fun lW => ⟨_, ⟨_, _, res_cell rfl rfl rfl rfl, res_tmp (P := Tryz.prog) rfl rfl, rfl⟩, _, rfl, ?_, lW⟩⟩
 clear lW
 exact ⟨_, rfl, _, _, rfl, k2⟩
theorem unfrom_any {z : Int} {u : Value} (hz : IsW z u) {w : World} : Calls Tryz.prog 24 #[u] w fun e w' => ∃ r, e = .returned r ∧ (∃ v, r = .tuple #[v, .int .i64 (fitE (z - cnt 0 2208988800 0))] ∧ IsW (fitV (z - cnt 0 2208988800 0)) v) ∧ Below w.heap.size w w' := by
 obtain ⟨uh, ul, rfl, hz⟩ := hz
 have hc : z + (-2208988800) * 1000000000000000000 = z - cnt 0 2208988800 0 := by unfold cnt; omega
 refine calls_Wp (args := [_]) (n := 8) Tryz.func24 rfl rfl (by simp) ?_
 refine Wp.seq ?_
 refine wR [0, 1, 2] ?_
 refine sE (fun bk1 w1 kb1 lw1 => ?_)
 refine sO (fun bk2 w2 kb2 lw2 => ?_)
 refine sZ 1 ?_
 refine qQ 1 ?_
 refine sT (unlater_any (n := (-2208988800)) ⟨by decide, by decide⟩ ⟨_, _, rfl, hz⟩) ?_
 rintro v w3 ⟨su, rfl, sh, sl, rfl, k2⟩ lw3
 rw [hc] at k2 ⊢
 refine sQ 2 ?_
 refine sS (fun w4 sw4 vw4 => ?_)
 refine sZ 1 ?_
 refine Wp.ret ⟨.inr rfl, fun lW => ⟨_, ⟨_, _, res_cell rfl rfl rfl rfl, res_tmp (P := Tryz.prog) rfl rfl, rfl⟩, _, rfl, ?_, lW⟩⟩
 clear lW
 exact ⟨_, rfl, _, _, rfl, k2⟩
theorem uncount_any {d s a : Int} (_hd : I64 d) (_hs : I64 s) (_ha : I64 a) {w : World} : Calls Tryz.prog 9 #[.agg #[.int .i64 d, .int .i64 s, .int .i64 a]] w fun e w' => ∃ r, e = .returned r ∧ (∃ u, r = .tuple #[u, .int .i64 (unE d s a)] ∧ IsW (unV d s a) u) ∧ Below w.heap.size w w' := by
 refine calls_Wp (args := [_]) (n := 35) Tryz.func9 rfl rfl (by simp) ?_
 refine Wp.seq ?_
 refine wR [0, 1, 2] ?_
 refine sE (fun bk1 w1 kb1 lw1 => ?_)
 refine sO (fun bk2 w2 kb2 lw2 => ?_)
 refine sZ 1 ?_
 refine Wp.seq ?_
 refine qQ 2 ?_
 refine p_lss rfl rfl rfl rfl rfl (fun h8 => ?_) (fun h8 => ?_)
 ·refine sZ 5 ?_
  refine Wp.condT rfl rfl ?_
  refine Wp.seq ?_
  obtain ⟨e1, e2⟩ := un_bad (d := d) (isU_no.2 (show ¬ (0 ≤ s ∧ s ≤ 86400 ∧ 0 ≤ a ∧ a < 1000000000000000000) by omega))
  rw [e1, e2]
  refine wR [0, 1, 2] ?_
  refine sB ?_
  refine sS (fun w3 sw3 vw3 => ?_)
  refine sZ 1 ?_
  refine Wp.ret ⟨.inr rfl, fun lW => ⟨_, ⟨_, _, res_cell rfl rfl rfl rfl, res_tmp (P := Tryz.prog) rfl rfl, rfl⟩, _, rfl, ?_, lW⟩⟩
  clear lW
  exact ⟨_, rfl, _, _, rfl, (by unfold WideIs; omega)⟩
 ·refine sQ 3 ?_
  refine p_gtr rfl rfl rfl rfl rfl (fun h12 => ?_) (fun h12 => ?_)
  ·refine sZ 1 ?_
   refine Wp.condT rfl rfl ?_
   refine Wp.seq ?_
   obtain ⟨e1, e2⟩ := un_bad (d := d) (isU_no.2 (show ¬ (0 ≤ s ∧ s ≤ 86400 ∧ 0 ≤ a ∧ a < 1000000000000000000) by omega))
   rw [e1, e2]
   refine wR [0, 1, 2] ?_
   refine sB ?_
   refine sS (fun w4 sw4 vw4 => ?_)
   refine sZ 1 ?_
   refine Wp.ret ⟨.inr rfl, fun lW => ⟨_, ⟨_, _, res_cell rfl rfl rfl rfl, res_tmp (P := Tryz.prog) rfl rfl, rfl⟩, _, rfl, ?_, lW⟩⟩
   clear lW
   exact ⟨_, rfl, _, _, rfl, (by unfold WideIs; omega)⟩
  ·refine sZ 1 ?_
   refine Wp.condF rfl rfl ?_
   refine Wp.skip ?_
   refine Wp.seq ?_
   have hU := un_lab (d := d) (s := s) (a := a) (by omega)
   rw [hU]
   refine wQ 4 ?_
   refine sB ?_
   refine sT (djoin_any (d := d) (s := 0) (a := a) _hd ⟨by decide, by decide⟩ _ha _) ?_
   rintro v w5 ⟨ju, rfl, jh, jl, rfl, k1⟩ lw5
   refine sQ 3 ?_
   refine sO (fun bk6 w6 kb6 lw6 => ?_)
   refine sS (fun w7 sw7 vw7 => ?_)
   refine sZ 1 ?_
   refine Wp.seq ?_
   refine qQ 1 ?_
   refine p_neq rfl rfl rfl rfl rfl (fun h25 => ?_) (fun h25 => ?_)
   ·refine vOrd_nil ?_
    refine Wp.condT rfl rfl ?_
    refine Wp.seq ?_
    have e2 : unV d s a = 0 := if_neg (by rw [hU]; omega)
    rw [e2]
    refine wR [0, 1, 2, 3] ?_
    refine sB ?_
    refine sM ?_
    refine sS (fun w8 sw8 vw8 => ?_)
    refine sZ 1 ?_
    refine Wp.ret ⟨.inr rfl, fun lW => ⟨_, ⟨_, _, res_cell rfl rfl rfl rfl, res_tmp (P := Tryz.prog) rfl rfl, rfl⟩, _, rfl, ?_, lW⟩⟩
    clear lW
    exact ⟨_, rfl, _, _, rfl, (by unfold WideIs; omega)⟩
   ·refine vOrd_nil ?_
    refine Wp.condF rfl rfl ?_
    refine Wp.skip ?_
    refine Wp.seq ?_
    obtain ⟨p1, p2⟩ := lab_zero (d := d) (s := 0) (a := a) (by omega)
    rw [(lab_ok p1 p2).2] at k1
    have p3 := isL_iff.1 p1
    have p4 := inB_iff.1 p2
    have e2 : unV d s a = cnt d s a - cnt 40587 0 0 := if_pos (by rw [hU]; exact (lab_ok p1 p2).1)
    rw [e2, (lab_ok p1 p2).1]
    have hZ : cnt d 0 a + (s - 3506716800) * 1000000000000000000 = cnt d s a - cnt 40587 0 0 := by unfold cnt; omega
    obtain ⟨g1, g2⟩ := fit_ok (z := cnt d s a - cnt 40587 0 0) (by unfold cnt; omega) (by unfold cnt; omega)
    refine wQ 3 ?_
    refine aM (-9223372036854775808) 9223372036854775807 ?_
    refine sT (unlater_any (n := s - 3506716800) ⟨by omega, by omega⟩ ⟨_, _, rfl, k1⟩) ?_
    rintro v w9 ⟨su, rfl, sh, sl, rfl, k2⟩ lw9
    rw [hZ] at k2 ⊢
    rw [g2]
    rw [g1] at k2
    refine sQ 2 ?_
    refine sS (fun w10 sw10 vw10 => ?_)
    refine sZ 1 ?_
    refine Wp.ret ⟨.inr rfl, fun lW => ⟨_, ⟨_, _, res_cell rfl rfl rfl rfl, res_tmp (P := Tryz.prog) rfl rfl, rfl⟩, _, rfl, ?_, lW⟩⟩
    clear lW
    exact ⟨_, rfl, _, _, rfl, k2⟩
theorem unplain_far {z : Int} {u : Value} (hz : IsW z u) (hB : inB (dayZ (ulZ z)) = false) {w : World} : Calls Tryz.prog 40 #[u] w fun e w' => ∃ r, e = .returned r ∧ r = .tuple #[.agg #[.int .i64 0, .int .i64 0, .int .i64 0], .int .i64 2] ∧ Below w.heap.size w w' := by
 obtain ⟨uh, ul, rfl, hz⟩ := hz
 have hc : z + 3506716800 * 1000000000000000000 = ulZ z := by unfold ulZ cnt; omega
 cases hw : inW (ulZ z) with
 | false =>
  obtain ⟨f1, f2⟩ : fitV (ulZ z) = 0 ∧ fitE (ulZ z) = 2 := ⟨by unfold fitV; rw [hw]; rfl, by unfold fitE; rw [hw]; rfl⟩
  refine calls_Wp (args := [_]) (n := 19) Tryz.func40 rfl rfl (by simp) ?_
  refine Wp.seq ?_
  refine wR [0, 1, 2] ?_
  refine sE (fun bk1 w1 kb1 lw1 => ?_)
  refine sO (fun bk2 w2 kb2 lw2 => ?_)
  refine sZ 1 ?_
  refine qQ 1 ?_
  refine sT (unlater_any (n := 3506716800) ⟨by decide, by decide⟩ ⟨_, _, rfl, hz⟩) ?_
  rintro v w3 ⟨su, rfl, sh, sl, rfl, k2⟩ lw3
  rw [hc, f2]
  refine sQ 3 ?_
  refine sO (fun bk4 w4 kb4 lw4 => ?_)
  refine sS (fun w5 sw5 vw5 => ?_)
  refine sZ 1 ?_
  refine Wp.seq ?_
  refine qQ 1 ?_
  refine t_neq rfl rfl rfl rfl rfl (by omega) ?_
  refine vOrd_nil ?_
  refine Wp.condT rfl rfl ?_
  refine Wp.seq ?_
  refine wR [0, 1, 2, 3] ?_
  refine sB ?_
  refine sM ?_
  refine sS (fun w6 sw6 vw6 => ?_)
  refine sZ 1 ?_
  refine Wp.ret ⟨.inr rfl, fun lW => ⟨_, ⟨_, _, res_cell rfl rfl rfl rfl, res_tmp (P := Tryz.prog) rfl rfl, rfl⟩, _, rfl, ?_, lW⟩⟩
  clear lW
  rfl
 | true =>
  obtain ⟨f1, f2⟩ : fitV (ulZ z) = ulZ z ∧ fitE (ulZ z) = 0 := ⟨by unfold fitV; rw [hw]; rfl, by unfold fitE; rw [hw]; rfl⟩
  obtain ⟨x1, x2, x3⟩ := spl_no hB
  refine calls_Wp (args := [_]) (n := 19) Tryz.func40 rfl rfl (by simp) ?_
  refine Wp.seq ?_
  refine wR [0, 1, 2] ?_
  refine sE (fun bk1 w1 kb1 lw1 => ?_)
  refine sO (fun bk2 w2 kb2 lw2 => ?_)
  refine sZ 1 ?_
  refine qQ 1 ?_
  refine sT (unlater_any (n := 3506716800) ⟨by decide, by decide⟩ ⟨_, _, rfl, hz⟩) ?_
  rintro v w3 ⟨su, rfl, sh, sl, rfl, k2⟩ lw3
  rw [hc, f2]
  rw [hc, f1] at k2
  refine sQ 3 ?_
  refine sO (fun bk4 w4 kb4 lw4 => ?_)
  refine sS (fun w5 sw5 vw5 => ?_)
  refine sZ 1 ?_
  refine Wp.seq ?_
  refine qQ 1 ?_
  refine f_neq rfl rfl rfl rfl rfl (by omega) ?_
  refine vOrd_nil ?_
  refine Wp.condF rfl rfl ?_
  refine Wp.skip ?_
  refine qQ 1 ?_
  refine sT (dsplit_any ⟨_, _, rfl, k2⟩ _) ?_
  rintro v w6 rfl lw6
  rw [splE_no hB, x1, x2, x3]
  refine sQ 2 ?_
  refine sS (fun w7 sw7 vw7 => ?_)
  refine sZ 1 ?_
  refine Wp.ret ⟨.inr rfl, fun lW => ⟨_, ⟨_, _, res_cell rfl rfl rfl rfl, res_tmp (P := Tryz.prog) rfl rfl, rfl⟩, _, rfl, ?_, lW⟩⟩
  clear lW
  rfl
theorem unplain_any {z : Int} {u : Value} (hz : IsW z u) (hB : inB (dayZ (ulZ z)) = true) {w : World} : Calls Tryz.prog 40 #[u] w fun e w' => ∃ r, e = .returned r ∧ r = .tuple #[.agg #[.int .i64 (dayZ (ulZ z)), .int .i64 (secZ (ulZ z)), .int .i64 (attZ (ulZ z))], .int .i64 0] ∧ Below w.heap.size w w' := by
 obtain ⟨uh, ul, rfl, hz⟩ := hz
 have hc : z + 3506716800 * 1000000000000000000 = ulZ z := by unfold ulZ cnt; omega
 obtain ⟨x1, x2, x3⟩ := spl_yes hB
 have hnr := inB_near hB
 obtain ⟨f1, f2⟩ := fit_ok (z := ulZ z) (by omega) (by omega)
 have hse := splE_yes hB
 refine calls_Wp (args := [_]) (n := 19) Tryz.func40 rfl rfl (by simp) ?_
 refine Wp.seq ?_
 refine wR [0, 1, 2] ?_
 refine sE (fun bk1 w1 kb1 lw1 => ?_)
 refine sO (fun bk2 w2 kb2 lw2 => ?_)
 refine sZ 1 ?_
 refine qQ 1 ?_
 refine sT (unlater_any (n := 3506716800) ⟨by decide, by decide⟩ ⟨_, _, rfl, hz⟩) ?_
 rintro v w3 ⟨su, rfl, sh, sl, rfl, k2⟩ lw3
 rw [hc, f2]
 rw [hc, f1] at k2
 refine sQ 3 ?_
 refine sO (fun bk4 w4 kb4 lw4 => ?_)
 refine sS (fun w5 sw5 vw5 => ?_)
 refine sZ 1 ?_
 refine Wp.seq ?_
 refine qQ 1 ?_
 refine f_neq rfl rfl rfl rfl rfl (by omega) ?_
 refine vOrd_nil ?_
 refine Wp.condF rfl rfl ?_
 refine Wp.skip ?_
 refine qQ 1 ?_
 refine sT (dsplit_any ⟨_, _, rfl, k2⟩ _) ?_
 rintro v w6 rfl lw6
 rw [hse, x1, x2, x3]
 refine sQ 2 ?_
 refine sS (fun w7 sw7 vw7 => ?_)
 refine sZ 1 ?_
 refine Wp.ret ⟨.inr rfl, fun lW => ⟨_, ⟨_, _, res_cell rfl rfl rfl rfl, res_tmp (P := Tryz.prog) rfl rfl, rfl⟩, _, rfl, ?_, lW⟩⟩
 clear lW
 rfl
set_option maxHeartbeats 2000000 in
theorem unthere_any {w : World} {h b c : Nat} {R : Option Nat} {hs : List Nat} {t : Tb} {k : Int} (hb : canBe t = true) (H : Ck w h b c R hs t k) (hk : 0 ≤ k ∧ k ≤ 750000) {D S A : Int} (hD : -1099511627776 ≤ D ∧ D ≤ 1099511627776) (hl : (0 ≤ S ∧ S < 86400) ∧ 0 ≤ A ∧ A < 1000000000000000000) {J K J' K' : Nat} (hJ : CutP (pSD D) pubS J) (hK : Cut (pDay D) t.es K) (hJ' : CutP (pSD (D - 1)) pubS J') (hK' : Cut (pDay (D - 1)) t.es K') {p q : Bool} (hp : (decide (S = 0) && decide (ckE t true J' K' (D - 1) 86400 A = 0)) = p) (hq : decide (ckE t true J K D S A = 0) = q) : Calls Tryz.prog 41 #[.pointer (some ⟨h, 0, none⟩), .agg #[.int .i64 D, .int .i64 S, .int .i64 A]] w fun e w' => ∃ v, e = .returned v ∧ (∃ cs', (w'.ownsRow w.heap.size 23 3 v (ulN p q) (ulC p q D S A) ∧ ∃ R' k', Nx w R R' ∧ (k ≤ k' ∧ k' ≤ k + 30) ∧ Ck w' h b c R' hs t k') ∧ Var w' b cs') ∧ w.grownBy w' (some b) := by
 obtain ⟨hL, hBK⟩ := H
 obtain ⟨cs0, hv⟩ := hL.var
 have hbw := hv.lt
 obtain ⟨E1, hE1⟩ : ∃ E, ckE t true J' K' (D - 1) 86400 A = E := ⟨_, rfl⟩
 obtain ⟨E2, hE2⟩ : ∃ E, ckE t true J K D S A = E := ⟨_, rfl⟩
 rw [hE1] at hp
 rw [hE2] at hq
 cases p with
 | false =>
  cases q with
  | false =>
   rw [← Bool.not_eq_true, Bool.and_eq_true, decide_eq_true_eq, decide_eq_true_eq] at hp
   have hq := of_decide_eq_false hq
   refine calls_WpC (args := [_, _]) (n := 34) hv Tryz.func41 rfl rfl (by simp) ?_
   refine Wp.seq ?_
   refine wR [0, 1] ?_
   refine sE (fun bk1 w1 kb1 lw1 => ?_)
   have nL3 := hL.ne kb1
   have nB3 := hBK.ne kb1
   replace hL := hL.later lw1
   replace hBK := hBK.later lw1
   have hs3 := lw1.size
   try have nO3 := own_ne hown (.inr kb1)
   try replace hown := own_later hown lw1
   try replace hno := hno.more lw1.size
   refine sZ 1 ?_
   refine Wp.seq ?_
   refine Wp.var (h := 3) rfl (fun v3 => ?_)
   have q3 := v3.lt
   refine wR [0, 1] ?_
   refine s_bs (e := 23) (cs := []) rfl rfl rfl (fun _ => by kernel_rfl) ?_
   intro c0 wq0 hc0 lq0 hrow0
   have hno : Aside wq0 h b c R hs (.slice (some ⟨c0, 0, none⟩) 0 0) := Aside.laid ⟨hL, hBK⟩ hc0 hrow0.var.lt
   have hsllq0 := lq0.size
   try replace hL := hL.later lq0
   try replace hBK := hBK.later lq0
   try replace hvh := hvh.later lq0
   have hown : wq0.ownsRow w.heap.size 23 3 (.slice (some ⟨c0, 0, none⟩) 0 0) 0 [] := own_of_row hrow0 (by omega) (n := 0) (sz := 3) rfl (by decide)
   have nO3 : Value.ownBlock (.slice (some ⟨c0, 0, none⟩) 0 0) ≠ some bk1 := fun e => by
    have e1 : c0 = bk1 := Option.some.inj e
    omega
   refine sZ 1 ?_
   refine qQ 2 ?_
   refine aM (-9223372036854775808) 9223372036854775807 ?_
   refine sQ 2 ?_
   refine sB ?_
   refine sO (fun bk13 w13 kb13 lw13 => ?_)
   have nL6 := hL.ne kb13
   have nB6 := hBK.ne kb13
   replace hL := hL.later lw13
   replace hBK := hBK.later lw13
   have hs6 := lw13.size
   try have nO6 := own_ne hown (.inr kb13)
   try replace hown := own_later hown lw13
   try replace hno := hno.more lw13.size
   refine sS (fun w14 sw14 vw14 => ?_)
   replace hL := hL.sto sw14 nL6
   replace hBK := hBK.sto sw14 nB6
   try replace hown := own_sto hown sw14 nO6
   try replace hno := hno.more (Nat.le_of_eq sw14.size.symm)
   refine vOrd_nil ?_
   refine Wp.seq ?_
   refine Wp.seq ?_
   refine Wp.var (h := 3) rfl (fun v3 => ?_)
   have q3 := v3.lt
   refine Wp.var (h := 6) rfl (fun v6 => ?_)
   have q6 := v6.lt
   refine wQ 2 ?_
   refine p_eql rfl rfl rfl rfl rfl (fun h16 => ?_) (fun h16 => ?_)
   ·refine sQ 3 ?_
    refine s_callH 899 rfl rfl rfl (by kernel_rfl) rfl rfl (fun vr => (cexists_any hb ⟨hL, hBK⟩ ⟨by omega, by omega⟩ (d := D - 1) (s := 86400) (a := A) ⟨by omega, by omega⟩ ⟨by omega, by omega⟩ ⟨by omega, by omega⟩ hJ' hK')) ?_
    rintro v cs15 w15 ⟨rfl, R1, k1, hN1, hk1, hLq, hBq⟩ gw15 vw15
    replace hBK := hBK.grown gw15
    replace hown := World.ownsRow.kept hown gw15 (.inr (fun e => (hno _ e).1.1.1 rfl))
    replace hno := hno.next hN1 gw15.size
    have hsg1 := gw15.size
    have mL3 := hN1.ne nL3.2.2 q3
    replace nL3 := And.intro nL3.1 (And.intro nL3.2.1 mL3)
    have mL6 := hN1.ne nL6.2.2 q6
    replace nL6 := And.intro nL6.1 (And.intro nL6.2.1 mL6)
    clear hL hBK
    have hL := hLq
    have hBK := hBq
    clear hLq hBq
    rw [hE1, decide_eq_false (fun e => hp ⟨by omega, e⟩)]
    refine sZ 1 ?_
    refine Wp.condF rfl rfl ?_
    refine Wp.skip ?_
    refine Wp.seq ?_
    refine Wp.seq ?_
    refine Wp.var (h := 3) rfl (fun v3 => ?_)
    have q3 := v3.lt
    refine Wp.var (h := 6) rfl (fun v6 => ?_)
    have q6 := v6.lt
    refine wQ 2 ?_
    refine s_callH 899 rfl rfl rfl (by kernel_rfl) rfl rfl (fun vr => (cexists_any hb ⟨hL, hBK⟩ ⟨by omega, by omega⟩ (d := D) (s := S) (a := A) ⟨by omega, by omega⟩ ⟨by omega, by omega⟩ ⟨by omega, by omega⟩ hJ hK)) ?_
    rintro v cs16 w16 ⟨rfl, R2, k2, hN2, hk2, hLq, hBq⟩ gw16 vw16
    replace hBK := hBK.grown gw16
    replace hown := World.ownsRow.kept hown gw16 (.inr (fun e => (hno _ e).1.1.1 rfl))
    replace hno := hno.next hN2 gw16.size
    have hsg2 := gw16.size
    have mL3 := hN2.ne nL3.2.2 q3
    replace nL3 := And.intro nL3.1 (And.intro nL3.2.1 mL3)
    have mL6 := hN2.ne nL6.2.2 q6
    replace nL6 := And.intro nL6.1 (And.intro nL6.2.1 mL6)
    clear hL hBK
    have hL := hLq
    have hBK := hBq
    clear hLq hBq
    rw [hE2, decide_eq_false hq]
    refine vOrd_nil ?_
    refine Wp.condF rfl rfl ?_
    refine Wp.skip ?_
    refine qZ ?_
    refine Wp.ret ⟨.inr rfl, fun mW lW => ⟨_, res_tmp (P := Tryz.prog) rfl rfl, _, rfl, ?_, lW⟩⟩
    exact ⟨_, ⟨hown, _, _, (hN1.first (by omega)).trans hN2 (by omega), ⟨by omega, by omega⟩, hL, hBK⟩, mW 899 _ _ rfl⟩
   ·refine sZ 5 ?_
    refine Wp.condF rfl rfl ?_
    refine Wp.skip ?_
    refine Wp.seq ?_
    refine Wp.seq ?_
    refine Wp.var (h := 3) rfl (fun v3 => ?_)
    have q3 := v3.lt
    refine Wp.var (h := 6) rfl (fun v6 => ?_)
    have q6 := v6.lt
    refine wQ 2 ?_
    refine s_callH 899 rfl rfl rfl (by kernel_rfl) rfl rfl (fun vr => (cexists_any hb ⟨hL, hBK⟩ ⟨by omega, by omega⟩ (d := D) (s := S) (a := A) ⟨by omega, by omega⟩ ⟨by omega, by omega⟩ ⟨by omega, by omega⟩ hJ hK)) ?_
    rintro v cs17 w17 ⟨rfl, R2, k2, hN2, hk2, hLq, hBq⟩ gw17 vw17
    replace hBK := hBK.grown gw17
    replace hown := World.ownsRow.kept hown gw17 (.inr (fun e => (hno _ e).1.1.1 rfl))
    replace hno := hno.next hN2 gw17.size
    have hsg2 := gw17.size
    have mL3 := hN2.ne nL3.2.2 q3
    replace nL3 := And.intro nL3.1 (And.intro nL3.2.1 mL3)
    have mL6 := hN2.ne nL6.2.2 q6
    replace nL6 := And.intro nL6.1 (And.intro nL6.2.1 mL6)
    clear hL hBK
    have hL := hLq
    have hBK := hBq
    clear hLq hBq
    rw [hE2, decide_eq_false hq]
    refine vOrd_nil ?_
    refine Wp.condF rfl rfl ?_
    refine Wp.skip ?_
    refine qZ ?_
    refine Wp.ret ⟨.inr rfl, fun mW lW => ⟨_, res_tmp (P := Tryz.prog) rfl rfl, _, rfl, ?_, lW⟩⟩
    exact ⟨_, ⟨hown, _, _, hN2.first (by omega), ⟨by omega, by omega⟩, hL, hBK⟩, mW 899 _ _ rfl⟩
  | true =>
   rw [← Bool.not_eq_true, Bool.and_eq_true, decide_eq_true_eq, decide_eq_true_eq] at hp
   have hq := of_decide_eq_true hq
   refine calls_WpC (args := [_, _]) (n := 34) hv Tryz.func41 rfl rfl (by simp) ?_
   refine Wp.seq ?_
   refine wR [0, 1] ?_
   refine sE (fun bk1 w1 kb1 lw1 => ?_)
   have nL3 := hL.ne kb1
   have nB3 := hBK.ne kb1
   replace hL := hL.later lw1
   replace hBK := hBK.later lw1
   have hs3 := lw1.size
   try have nO3 := own_ne hown (.inr kb1)
   try replace hown := own_later hown lw1
   try replace hno := hno.more lw1.size
   refine sZ 1 ?_
   refine Wp.seq ?_
   refine Wp.var (h := 3) rfl (fun v3 => ?_)
   have q3 := v3.lt
   refine wR [0, 1] ?_
   refine s_bs (e := 23) (cs := []) rfl rfl rfl (fun _ => by kernel_rfl) ?_
   intro c0 wq0 hc0 lq0 hrow0
   have hno : Aside wq0 h b c R hs (.slice (some ⟨c0, 0, none⟩) 0 0) := Aside.laid ⟨hL, hBK⟩ hc0 hrow0.var.lt
   have hsllq0 := lq0.size
   try replace hL := hL.later lq0
   try replace hBK := hBK.later lq0
   try replace hvh := hvh.later lq0
   have hown : wq0.ownsRow w.heap.size 23 3 (.slice (some ⟨c0, 0, none⟩) 0 0) 0 [] := own_of_row hrow0 (by omega) (n := 0) (sz := 3) rfl (by decide)
   have nO3 : Value.ownBlock (.slice (some ⟨c0, 0, none⟩) 0 0) ≠ some bk1 := fun e => by
    have e1 : c0 = bk1 := Option.some.inj e
    omega
   refine sZ 1 ?_
   refine qQ 2 ?_
   refine aM (-9223372036854775808) 9223372036854775807 ?_
   refine sQ 2 ?_
   refine sB ?_
   refine sO (fun bk13 w13 kb13 lw13 => ?_)
   have nL6 := hL.ne kb13
   have nB6 := hBK.ne kb13
   replace hL := hL.later lw13
   replace hBK := hBK.later lw13
   have hs6 := lw13.size
   try have nO6 := own_ne hown (.inr kb13)
   try replace hown := own_later hown lw13
   try replace hno := hno.more lw13.size
   refine sS (fun w14 sw14 vw14 => ?_)
   replace hL := hL.sto sw14 nL6
   replace hBK := hBK.sto sw14 nB6
   try replace hown := own_sto hown sw14 nO6
   try replace hno := hno.more (Nat.le_of_eq sw14.size.symm)
   refine vOrd_nil ?_
   refine Wp.seq ?_
   refine Wp.seq ?_
   refine Wp.var (h := 3) rfl (fun v3 => ?_)
   have q3 := v3.lt
   refine Wp.var (h := 6) rfl (fun v6 => ?_)
   have q6 := v6.lt
   refine wQ 2 ?_
   refine p_eql rfl rfl rfl rfl rfl (fun h16 => ?_) (fun h16 => ?_)
   ·refine sQ 3 ?_
    refine s_callH 899 rfl rfl rfl (by kernel_rfl) rfl rfl (fun vr => (cexists_any hb ⟨hL, hBK⟩ ⟨by omega, by omega⟩ (d := D - 1) (s := 86400) (a := A) ⟨by omega, by omega⟩ ⟨by omega, by omega⟩ ⟨by omega, by omega⟩ hJ' hK')) ?_
    rintro v cs15 w15 ⟨rfl, R1, k1, hN1, hk1, hLq, hBq⟩ gw15 vw15
    replace hBK := hBK.grown gw15
    replace hown := World.ownsRow.kept hown gw15 (.inr (fun e => (hno _ e).1.1.1 rfl))
    replace hno := hno.next hN1 gw15.size
    have hsg1 := gw15.size
    have mL3 := hN1.ne nL3.2.2 q3
    replace nL3 := And.intro nL3.1 (And.intro nL3.2.1 mL3)
    have mL6 := hN1.ne nL6.2.2 q6
    replace nL6 := And.intro nL6.1 (And.intro nL6.2.1 mL6)
    clear hL hBK
    have hL := hLq
    have hBK := hBq
    clear hLq hBq
    rw [hE1, decide_eq_false (fun e => hp ⟨by omega, e⟩)]
    refine sZ 1 ?_
    refine Wp.condF rfl rfl ?_
    refine Wp.skip ?_
    refine Wp.seq ?_
    refine Wp.seq ?_
    refine Wp.var (h := 3) rfl (fun v3 => ?_)
    have q3 := v3.lt
    refine Wp.var (h := 6) rfl (fun v6 => ?_)
    have q6 := v6.lt
    refine wQ 2 ?_
    refine s_callH 899 rfl rfl rfl (by kernel_rfl) rfl rfl (fun vr => (cexists_any hb ⟨hL, hBK⟩ ⟨by omega, by omega⟩ (d := D) (s := S) (a := A) ⟨by omega, by omega⟩ ⟨by omega, by omega⟩ ⟨by omega, by omega⟩ hJ hK)) ?_
    rintro v cs16 w16 ⟨rfl, R2, k2, hN2, hk2, hLq, hBq⟩ gw16 vw16
    replace hBK := hBK.grown gw16
    replace hown := World.ownsRow.kept hown gw16 (.inr (fun e => (hno _ e).1.1.1 rfl))
    replace hno := hno.next hN2 gw16.size
    have hsg2 := gw16.size
    have mL3 := hN2.ne nL3.2.2 q3
    replace nL3 := And.intro nL3.1 (And.intro nL3.2.1 mL3)
    have mL6 := hN2.ne nL6.2.2 q6
    replace nL6 := And.intro nL6.1 (And.intro nL6.2.1 mL6)
    clear hL hBK
    have hL := hLq
    have hBK := hBq
    clear hLq hBq
    rw [hE2, decide_eq_true hq]
    refine vOrd_nil ?_
    refine Wp.condT rfl rfl ?_
    refine Wp.var (h := 3) rfl (fun v3 => ?_)
    have q3 := v3.lt
    refine Wp.var (h := 6) rfl (fun v6 => ?_)
    have q6 := v6.lt
    refine wQ 2 ?_
    refine s_bs (e := 23) (cs := [.int .i64 D, .int .i64 S, .int .i64 A]) rfl rfl rfl (fun _ => by kernel_rfl) ?_
    intro c6 wq6 hc6 lq6 hrow6
    have hsllq6 := lq6.size
    try replace hL := hL.later lq6
    try replace hBK := hBK.later lq6
    try replace hvh := hvh.later lq6
    try replace hown := own_later hown lq6
    try replace hno := hno.more lq6.size
    refine x_appendW (v := (.slice (some ⟨c0, 0, none⟩) 0 0)) (base := w.heap.size) (sz := 3) (bs := 24) (n := 0) (m := 1) (news := [.int .i64 D, .int .i64 S, .int .i64 A]) rfl rfl rfl rfl rfl rfl rfl rfl rfl rfl rfl (by decide) hown (fun j y hj => by rw [Nat.zero_add, cell_var hrow6.var]; exact hj) rfl (by intro u hu; simp at hu; rcases hu with rfl | rfl | rfl <;> rfl) (by omega) (by omega) (by omega) (Nat.le_refl _) (by repeat (first | exact AllMem.argsC (fun e => (hno _ e).1.1.1 rfl) | refine AllMem.put ?_ | refine AllMem.new ?_ (by first | exact nO6 | exact nO3) | refine AllMem.set ?_ (by first | exact nO6 | exact nO3 | exact fun e => (hno _ e).1.1.1 rfl))) ?_
    intro v6 w6a hown6 gr6 hat6
    have hno6 := hno.app ⟨hL, hBK⟩ hat6 hown6
    have nO36 := at_ne hat6 nO3 (by omega)
    have nO66 := at_ne hat6 nO6 (by omega)
    have hC6 := Ck.app ⟨hL, hBK⟩ hno gr6
    have hsa6 := gr6.size
    clear hL hBK hno hown nO3 nO6
    have hL := hC6.1
    have hBK := hC6.2
    have hno := hno6
    have nO3 := nO36
    have nO6 := nO66
    have hown := (show World.ownsRow _ w.heap.size 23 3 v6 1 [.int .i64 D, .int .i64 S, .int .i64 A] from hown6)
    clear hno6 nO36 nO66 hC6 hown6
    refine sZ 1 ?_
    refine qZ ?_
    refine Wp.ret ⟨.inr rfl, fun mW lW => ⟨_, res_tmp (P := Tryz.prog) rfl rfl, _, rfl, ?_, lW⟩⟩
    exact ⟨_, ⟨hown, _, _, (hN1.first (by omega)).trans hN2 (by omega), ⟨by omega, by omega⟩, hL, hBK⟩, mW 899 _ _ rfl⟩
   ·refine sZ 5 ?_
    refine Wp.condF rfl rfl ?_
    refine Wp.skip ?_
    refine Wp.seq ?_
    refine Wp.seq ?_
    refine Wp.var (h := 3) rfl (fun v3 => ?_)
    have q3 := v3.lt
    refine Wp.var (h := 6) rfl (fun v6 => ?_)
    have q6 := v6.lt
    refine wQ 2 ?_
    refine s_callH 899 rfl rfl rfl (by kernel_rfl) rfl rfl (fun vr => (cexists_any hb ⟨hL, hBK⟩ ⟨by omega, by omega⟩ (d := D) (s := S) (a := A) ⟨by omega, by omega⟩ ⟨by omega, by omega⟩ ⟨by omega, by omega⟩ hJ hK)) ?_
    rintro v cs40 w40 ⟨rfl, R2, k2, hN2, hk2, hLq, hBq⟩ gw40 vw40
    replace hBK := hBK.grown gw40
    replace hown := World.ownsRow.kept hown gw40 (.inr (fun e => (hno _ e).1.1.1 rfl))
    replace hno := hno.next hN2 gw40.size
    have hsg2 := gw40.size
    have mL3 := hN2.ne nL3.2.2 q3
    replace nL3 := And.intro nL3.1 (And.intro nL3.2.1 mL3)
    have mL6 := hN2.ne nL6.2.2 q6
    replace nL6 := And.intro nL6.1 (And.intro nL6.2.1 mL6)
    clear hL hBK
    have hL := hLq
    have hBK := hBq
    clear hLq hBq
    rw [hE2, decide_eq_true hq]
    refine vOrd_nil ?_
    refine Wp.condT rfl rfl ?_
    refine Wp.var (h := 3) rfl (fun v3 => ?_)
    have q3 := v3.lt
    refine Wp.var (h := 6) rfl (fun v6 => ?_)
    have q6 := v6.lt
    refine wQ 2 ?_
    refine s_bs (e := 23) (cs := [.int .i64 D, .int .i64 S, .int .i64 A]) rfl rfl rfl (fun _ => by kernel_rfl) ?_
    intro c6 wq6 hc6 lq6 hrow6
    have hsllq6 := lq6.size
    try replace hL := hL.later lq6
    try replace hBK := hBK.later lq6
    try replace hvh := hvh.later lq6
    try replace hown := own_later hown lq6
    try replace hno := hno.more lq6.size
    refine x_appendW (v := (.slice (some ⟨c0, 0, none⟩) 0 0)) (base := w.heap.size) (sz := 3) (bs := 24) (n := 0) (m := 1) (news := [.int .i64 D, .int .i64 S, .int .i64 A]) rfl rfl rfl rfl rfl rfl rfl rfl rfl rfl rfl (by decide) hown (fun j y hj => by rw [Nat.zero_add, cell_var hrow6.var]; exact hj) rfl (by intro u hu; simp at hu; rcases hu with rfl | rfl | rfl <;> rfl) (by omega) (by omega) (by omega) (Nat.le_refl _) (by repeat (first | exact AllMem.argsC (fun e => (hno _ e).1.1.1 rfl) | refine AllMem.put ?_ | refine AllMem.new ?_ (by first | exact nO6 | exact nO3) | refine AllMem.set ?_ (by first | exact nO6 | exact nO3 | exact fun e => (hno _ e).1.1.1 rfl))) ?_
    intro v6 w6a hown6 gr6 hat6
    have hno6 := hno.app ⟨hL, hBK⟩ hat6 hown6
    have nO36 := at_ne hat6 nO3 (by omega)
    have nO66 := at_ne hat6 nO6 (by omega)
    have hC6 := Ck.app ⟨hL, hBK⟩ hno gr6
    have hsa6 := gr6.size
    clear hL hBK hno hown nO3 nO6
    have hL := hC6.1
    have hBK := hC6.2
    have hno := hno6
    have nO3 := nO36
    have nO6 := nO66
    have hown := (show World.ownsRow _ w.heap.size 23 3 v6 1 [.int .i64 D, .int .i64 S, .int .i64 A] from hown6)
    clear hno6 nO36 nO66 hC6 hown6
    refine sZ 1 ?_
    refine qZ ?_
    refine Wp.ret ⟨.inr rfl, fun mW lW => ⟨_, res_tmp (P := Tryz.prog) rfl rfl, _, rfl, ?_, lW⟩⟩
    exact ⟨_, ⟨hown, _, _, hN2.first (by omega), ⟨by omega, by omega⟩, hL, hBK⟩, mW 899 _ _ rfl⟩
 | true =>
  cases q with
  | false =>
   rw [Bool.and_eq_true, decide_eq_true_eq, decide_eq_true_eq] at hp
   have hq := of_decide_eq_false hq
   refine calls_WpC (args := [_, _]) (n := 34) hv Tryz.func41 rfl rfl (by simp) ?_
   refine Wp.seq ?_
   refine wR [0, 1] ?_
   refine sE (fun bk1 w1 kb1 lw1 => ?_)
   have nL3 := hL.ne kb1
   have nB3 := hBK.ne kb1
   replace hL := hL.later lw1
   replace hBK := hBK.later lw1
   have hs3 := lw1.size
   try have nO3 := own_ne hown (.inr kb1)
   try replace hown := own_later hown lw1
   try replace hno := hno.more lw1.size
   refine sZ 1 ?_
   refine Wp.seq ?_
   refine Wp.var (h := 3) rfl (fun v3 => ?_)
   have q3 := v3.lt
   refine wR [0, 1] ?_
   refine s_bs (e := 23) (cs := []) rfl rfl rfl (fun _ => by kernel_rfl) ?_
   intro c0 wq0 hc0 lq0 hrow0
   have hno : Aside wq0 h b c R hs (.slice (some ⟨c0, 0, none⟩) 0 0) := Aside.laid ⟨hL, hBK⟩ hc0 hrow0.var.lt
   have hsllq0 := lq0.size
   try replace hL := hL.later lq0
   try replace hBK := hBK.later lq0
   try replace hvh := hvh.later lq0
   have hown : wq0.ownsRow w.heap.size 23 3 (.slice (some ⟨c0, 0, none⟩) 0 0) 0 [] := own_of_row hrow0 (by omega) (n := 0) (sz := 3) rfl (by decide)
   have nO3 : Value.ownBlock (.slice (some ⟨c0, 0, none⟩) 0 0) ≠ some bk1 := fun e => by
    have e1 : c0 = bk1 := Option.some.inj e
    omega
   refine sZ 1 ?_
   refine qQ 2 ?_
   refine aM (-9223372036854775808) 9223372036854775807 ?_
   refine sQ 2 ?_
   refine sB ?_
   refine sO (fun bk13 w13 kb13 lw13 => ?_)
   have nL6 := hL.ne kb13
   have nB6 := hBK.ne kb13
   replace hL := hL.later lw13
   replace hBK := hBK.later lw13
   have hs6 := lw13.size
   try have nO6 := own_ne hown (.inr kb13)
   try replace hown := own_later hown lw13
   try replace hno := hno.more lw13.size
   refine sS (fun w14 sw14 vw14 => ?_)
   replace hL := hL.sto sw14 nL6
   replace hBK := hBK.sto sw14 nB6
   try replace hown := own_sto hown sw14 nO6
   try replace hno := hno.more (Nat.le_of_eq sw14.size.symm)
   refine vOrd_nil ?_
   refine Wp.seq ?_
   refine Wp.seq ?_
   refine Wp.var (h := 3) rfl (fun v3 => ?_)
   have q3 := v3.lt
   refine Wp.var (h := 6) rfl (fun v6 => ?_)
   have q6 := v6.lt
   refine wQ 2 ?_
   refine t_eql rfl rfl rfl rfl rfl (by omega) ?_
   refine sQ 3 ?_
   refine s_callH 899 rfl rfl rfl (by kernel_rfl) rfl rfl (fun vr => (cexists_any hb ⟨hL, hBK⟩ ⟨by omega, by omega⟩ (d := D - 1) (s := 86400) (a := A) ⟨by omega, by omega⟩ ⟨by omega, by omega⟩ ⟨by omega, by omega⟩ hJ' hK')) ?_
   rintro v cs15 w15 ⟨rfl, R1, k1, hN1, hk1, hLq, hBq⟩ gw15 vw15
   replace hBK := hBK.grown gw15
   replace hown := World.ownsRow.kept hown gw15 (.inr (fun e => (hno _ e).1.1.1 rfl))
   replace hno := hno.next hN1 gw15.size
   have hsg1 := gw15.size
   have mL3 := hN1.ne nL3.2.2 q3
   replace nL3 := And.intro nL3.1 (And.intro nL3.2.1 mL3)
   have mL6 := hN1.ne nL6.2.2 q6
   replace nL6 := And.intro nL6.1 (And.intro nL6.2.1 mL6)
   clear hL hBK
   have hL := hLq
   have hBK := hBq
   clear hLq hBq
   rw [hE1, decide_eq_true hp.2]
   refine sZ 1 ?_
   refine Wp.condT rfl rfl ?_
   refine Wp.var (h := 3) rfl (fun v3 => ?_)
   have q3 := v3.lt
   refine Wp.var (h := 6) rfl (fun v6 => ?_)
   have q6 := v6.lt
   refine wQ 2 ?_
   refine s_bs (e := 23) (cs := [.int .i64 (D - 1), .int .i64 86400, .int .i64 A]) rfl rfl rfl (fun _ => by kernel_rfl) ?_
   intro c4 wq4 hc4 lq4 hrow4
   have hsllq4 := lq4.size
   try replace hL := hL.later lq4
   try replace hBK := hBK.later lq4
   try replace hvh := hvh.later lq4
   try replace hown := own_later hown lq4
   try replace hno := hno.more lq4.size
   refine x_appendW (v := (.slice (some ⟨c0, 0, none⟩) 0 0)) (base := w.heap.size) (sz := 3) (bs := 24) (n := 0) (m := 1) (news := [.int .i64 (D - 1), .int .i64 86400, .int .i64 A]) rfl rfl rfl rfl rfl rfl rfl rfl rfl rfl rfl (by decide) hown (fun j y hj => by rw [Nat.zero_add, cell_var hrow4.var]; exact hj) rfl (by intro u hu; simp at hu; rcases hu with rfl | rfl | rfl <;> rfl) (by omega) (by omega) (by omega) (Nat.le_refl _) (by repeat (first | exact AllMem.argsC (fun e => (hno _ e).1.1.1 rfl) | refine AllMem.put ?_ | refine AllMem.new ?_ (by first | exact nO6 | exact nO3) | refine AllMem.set ?_ (by first | exact nO6 | exact nO3 | exact fun e => (hno _ e).1.1.1 rfl))) ?_
   intro v4 w4a hown4 gr4 hat4
   have hno4 := hno.app ⟨hL, hBK⟩ hat4 hown4
   have nO34 := at_ne hat4 nO3 (by omega)
   have nO64 := at_ne hat4 nO6 (by omega)
   have hC4 := Ck.app ⟨hL, hBK⟩ hno gr4
   have hsa4 := gr4.size
   clear hL hBK hno hown nO3 nO6
   have hL := hC4.1
   have hBK := hC4.2
   have hno := hno4
   have nO3 := nO34
   have nO6 := nO64
   have hown := (show World.ownsRow _ w.heap.size 23 3 v4 1 [.int .i64 (D - 1), .int .i64 86400, .int .i64 A] from hown4)
   clear hno4 nO34 nO64 hC4 hown4
   refine sZ 1 ?_
   refine Wp.seq ?_
   refine Wp.seq ?_
   refine Wp.var (h := 3) rfl (fun v3 => ?_)
   have q3 := v3.lt
   refine Wp.var (h := 6) rfl (fun v6 => ?_)
   have q6 := v6.lt
   refine wQ 2 ?_
   refine s_callH 899 rfl rfl rfl (by kernel_rfl) rfl rfl (fun vr => (cexists_any hb ⟨hL, hBK⟩ ⟨by omega, by omega⟩ (d := D) (s := S) (a := A) ⟨by omega, by omega⟩ ⟨by omega, by omega⟩ ⟨by omega, by omega⟩ hJ hK)) ?_
   rintro v cs39 w39 ⟨rfl, R2, k2, hN2, hk2, hLq, hBq⟩ gw39 vw39
   replace hBK := hBK.grown gw39
   replace hown := World.ownsRow.kept hown gw39 (.inr (fun e => (hno _ e).1.1.1 rfl))
   replace hno := hno.next hN2 gw39.size
   have hsg2 := gw39.size
   have mL3 := hN2.ne nL3.2.2 q3
   replace nL3 := And.intro nL3.1 (And.intro nL3.2.1 mL3)
   have mL6 := hN2.ne nL6.2.2 q6
   replace nL6 := And.intro nL6.1 (And.intro nL6.2.1 mL6)
   clear hL hBK
   have hL := hLq
   have hBK := hBq
   clear hLq hBq
   rw [hE2, decide_eq_false hq]
   refine vOrd_nil ?_
   refine Wp.condF rfl rfl ?_
   refine Wp.skip ?_
   refine qZ ?_
   refine Wp.ret ⟨.inr rfl, fun mW lW => ⟨_, res_tmp (P := Tryz.prog) rfl rfl, _, rfl, ?_, lW⟩⟩
   exact ⟨_, ⟨hown, _, _, (hN1.first (by omega)).trans hN2 (by omega), ⟨by omega, by omega⟩, hL, hBK⟩, mW 899 _ _ rfl⟩
  | true =>
   rw [Bool.and_eq_true, decide_eq_true_eq, decide_eq_true_eq] at hp
   have hq := of_decide_eq_true hq
   refine calls_WpC (args := [_, _]) (n := 34) hv Tryz.func41 rfl rfl (by simp) ?_
   refine Wp.seq ?_
   refine wR [0, 1] ?_
   refine sE (fun bk1 w1 kb1 lw1 => ?_)
   have nL3 := hL.ne kb1
   have nB3 := hBK.ne kb1
   replace hL := hL.later lw1
   replace hBK := hBK.later lw1
   have hs3 := lw1.size
   try have nO3 := own_ne hown (.inr kb1)
   try replace hown := own_later hown lw1
   try replace hno := hno.more lw1.size
   refine sZ 1 ?_
   refine Wp.seq ?_
   refine Wp.var (h := 3) rfl (fun v3 => ?_)
   have q3 := v3.lt
   refine wR [0, 1] ?_
   refine s_bs (e := 23) (cs := []) rfl rfl rfl (fun _ => by kernel_rfl) ?_
   intro c0 wq0 hc0 lq0 hrow0
   have hno : Aside wq0 h b c R hs (.slice (some ⟨c0, 0, none⟩) 0 0) := Aside.laid ⟨hL, hBK⟩ hc0 hrow0.var.lt
   have hsllq0 := lq0.size
   try replace hL := hL.later lq0
   try replace hBK := hBK.later lq0
   try replace hvh := hvh.later lq0
   have hown : wq0.ownsRow w.heap.size 23 3 (.slice (some ⟨c0, 0, none⟩) 0 0) 0 [] := own_of_row hrow0 (by omega) (n := 0) (sz := 3) rfl (by decide)
   have nO3 : Value.ownBlock (.slice (some ⟨c0, 0, none⟩) 0 0) ≠ some bk1 := fun e => by
    have e1 : c0 = bk1 := Option.some.inj e
    omega
   refine sZ 1 ?_
   refine qQ 2 ?_
   refine aM (-9223372036854775808) 9223372036854775807 ?_
   refine sQ 2 ?_
   refine sB ?_
   refine sO (fun bk13 w13 kb13 lw13 => ?_)
   have nL6 := hL.ne kb13
   have nB6 := hBK.ne kb13
   replace hL := hL.later lw13
   replace hBK := hBK.later lw13
   have hs6 := lw13.size
   try have nO6 := own_ne hown (.inr kb13)
   try replace hown := own_later hown lw13
   try replace hno := hno.more lw13.size
   refine sS (fun w14 sw14 vw14 => ?_)
   replace hL := hL.sto sw14 nL6
   replace hBK := hBK.sto sw14 nB6
   try replace hown := own_sto hown sw14 nO6
   try replace hno := hno.more (Nat.le_of_eq sw14.size.symm)
   refine vOrd_nil ?_
   refine Wp.seq ?_
   refine Wp.seq ?_
   refine Wp.var (h := 3) rfl (fun v3 => ?_)
   have q3 := v3.lt
   refine Wp.var (h := 6) rfl (fun v6 => ?_)
   have q6 := v6.lt
   refine wQ 2 ?_
   refine t_eql rfl rfl rfl rfl rfl (by omega) ?_
   refine sQ 3 ?_
   refine s_callH 899 rfl rfl rfl (by kernel_rfl) rfl rfl (fun vr => (cexists_any hb ⟨hL, hBK⟩ ⟨by omega, by omega⟩ (d := D - 1) (s := 86400) (a := A) ⟨by omega, by omega⟩ ⟨by omega, by omega⟩ ⟨by omega, by omega⟩ hJ' hK')) ?_
   rintro v cs15 w15 ⟨rfl, R1, k1, hN1, hk1, hLq, hBq⟩ gw15 vw15
   replace hBK := hBK.grown gw15
   replace hown := World.ownsRow.kept hown gw15 (.inr (fun e => (hno _ e).1.1.1 rfl))
   replace hno := hno.next hN1 gw15.size
   have hsg1 := gw15.size
   have mL3 := hN1.ne nL3.2.2 q3
   replace nL3 := And.intro nL3.1 (And.intro nL3.2.1 mL3)
   have mL6 := hN1.ne nL6.2.2 q6
   replace nL6 := And.intro nL6.1 (And.intro nL6.2.1 mL6)
   clear hL hBK
   have hL := hLq
   have hBK := hBq
   clear hLq hBq
   rw [hE1, decide_eq_true hp.2]
   refine sZ 1 ?_
   refine Wp.condT rfl rfl ?_
   refine Wp.var (h := 3) rfl (fun v3 => ?_)
   have q3 := v3.lt
   refine Wp.var (h := 6) rfl (fun v6 => ?_)
   have q6 := v6.lt
   refine wQ 2 ?_
   refine s_bs (e := 23) (cs := [.int .i64 (D - 1), .int .i64 86400, .int .i64 A]) rfl rfl rfl (fun _ => by kernel_rfl) ?_
   intro c4 wq4 hc4 lq4 hrow4
   have hsllq4 := lq4.size
   try replace hL := hL.later lq4
   try replace hBK := hBK.later lq4
   try replace hvh := hvh.later lq4
   try replace hown := own_later hown lq4
   try replace hno := hno.more lq4.size
   refine x_appendW (v := (.slice (some ⟨c0, 0, none⟩) 0 0)) (base := w.heap.size) (sz := 3) (bs := 24) (n := 0) (m := 1) (news := [.int .i64 (D - 1), .int .i64 86400, .int .i64 A]) rfl rfl rfl rfl rfl rfl rfl rfl rfl rfl rfl (by decide) hown (fun j y hj => by rw [Nat.zero_add, cell_var hrow4.var]; exact hj) rfl (by intro u hu; simp at hu; rcases hu with rfl | rfl | rfl <;> rfl) (by omega) (by omega) (by omega) (Nat.le_refl _) (by repeat (first | exact AllMem.argsC (fun e => (hno _ e).1.1.1 rfl) | refine AllMem.put ?_ | refine AllMem.new ?_ (by first | exact nO6 | exact nO3) | refine AllMem.set ?_ (by first | exact nO6 | exact nO3 | exact fun e => (hno _ e).1.1.1 rfl))) ?_
   intro v4 w4a hown4 gr4 hat4
   have hno4 := hno.app ⟨hL, hBK⟩ hat4 hown4
   have nO34 := at_ne hat4 nO3 (by omega)
   have nO64 := at_ne hat4 nO6 (by omega)
   have hC4 := Ck.app ⟨hL, hBK⟩ hno gr4
   have hsa4 := gr4.size
   clear hL hBK hno hown nO3 nO6
   have hL := hC4.1
   have hBK := hC4.2
   have hno := hno4
   have nO3 := nO34
   have nO6 := nO64
   have hown := (show World.ownsRow _ w.heap.size 23 3 v4 1 [.int .i64 (D - 1), .int .i64 86400, .int .i64 A] from hown4)
   clear hno4 nO34 nO64 hC4 hown4
   refine sZ 1 ?_
   refine Wp.seq ?_
   refine Wp.seq ?_
   refine Wp.var (h := 3) rfl (fun v3 => ?_)
   have q3 := v3.lt
   refine Wp.var (h := 6) rfl (fun v6 => ?_)
   have q6 := v6.lt
   refine wQ 2 ?_
   refine s_callH 899 rfl rfl rfl (by kernel_rfl) rfl rfl (fun vr => (cexists_any hb ⟨hL, hBK⟩ ⟨by omega, by omega⟩ (d := D) (s := S) (a := A) ⟨by omega, by omega⟩ ⟨by omega, by omega⟩ ⟨by omega, by omega⟩ hJ hK)) ?_
   rintro v cs39 w39 ⟨rfl, R2, k2, hN2, hk2, hLq, hBq⟩ gw39 vw39
   replace hBK := hBK.grown gw39
   replace hown := World.ownsRow.kept hown gw39 (.inr (fun e => (hno _ e).1.1.1 rfl))
   replace hno := hno.next hN2 gw39.size
   have hsg2 := gw39.size
   have mL3 := hN2.ne nL3.2.2 q3
   replace nL3 := And.intro nL3.1 (And.intro nL3.2.1 mL3)
   have mL6 := hN2.ne nL6.2.2 q6
   replace nL6 := And.intro nL6.1 (And.intro nL6.2.1 mL6)
   clear hL hBK
   have hL := hLq
   have hBK := hBq
   clear hLq hBq
   rw [hE2, decide_eq_true hq]
   refine vOrd_nil ?_
   refine Wp.condT rfl rfl ?_
   refine Wp.var (h := 3) rfl (fun v3 => ?_)
   have q3 := v3.lt
   refine Wp.var (h := 6) rfl (fun v6 => ?_)
   have q6 := v6.lt
   refine wQ 2 ?_
   refine s_bs (e := 23) (cs := [.int .i64 D, .int .i64 S, .int .i64 A]) rfl rfl rfl (fun _ => by kernel_rfl) ?_
   intro c6 wq6 hc6 lq6 hrow6
   have hsllq6 := lq6.size
   try replace hL := hL.later lq6
   try replace hBK := hBK.later lq6
   try replace hvh := hvh.later lq6
   try replace hown := own_later hown lq6
   try replace hno := hno.more lq6.size
   refine x_appendW (v := v4) (base := w.heap.size) (sz := 3) (bs := 24) (n := 1) (m := 1) (news := [.int .i64 D, .int .i64 S, .int .i64 A]) rfl rfl rfl rfl rfl rfl rfl rfl rfl rfl rfl (by decide) hown (fun j y hj => by rw [Nat.zero_add, cell_var hrow6.var]; exact hj) rfl (by intro u hu; simp at hu; rcases hu with rfl | rfl | rfl <;> rfl) (by omega) (by omega) (by omega) (Nat.le_refl _) (by repeat (first | exact AllMem.argsC (fun e => (hno _ e).1.1.1 rfl) | refine AllMem.put ?_ | refine AllMem.new ?_ (by first | exact nO6 | exact nO3) | refine AllMem.set ?_ (by first | exact nO6 | exact nO3 | exact fun e => (hno _ e).1.1.1 rfl))) ?_
   intro v6 w6a hown6 gr6 hat6
   have hno6 := hno.app ⟨hL, hBK⟩ hat6 hown6
   have nO36 := at_ne hat6 nO3 (by omega)
   have nO66 := at_ne hat6 nO6 (by omega)
   have hC6 := Ck.app ⟨hL, hBK⟩ hno gr6
   have hsa6 := gr6.size
   clear hL hBK hno hown nO3 nO6
   have hL := hC6.1
   have hBK := hC6.2
   have hno := hno6
   have nO3 := nO36
   have nO6 := nO66
   have hown := (show World.ownsRow _ w.heap.size 23 3 v6 2 [.int .i64 (D - 1), .int .i64 86400, .int .i64 A, .int .i64 D, .int .i64 S, .int .i64 A] from hown6)
   clear hno6 nO36 nO66 hC6 hown6
   refine sZ 1 ?_
   refine qZ ?_
   refine Wp.ret ⟨.inr rfl, fun mW lW => ⟨_, res_tmp (P := Tryz.prog) rfl rfl, _, rfl, ?_, lW⟩⟩
   exact ⟨_, ⟨hown, _, _, (hN1.first (by omega)).trans hN2 (by omega), ⟨by omega, by omega⟩, hL, hBK⟩, mW 899 _ _ rfl⟩

theorem unlabels_nil {z : Int} {u : Value} (hz : IsW z u) {w : World} : Calls Tryz.prog 17 #[.pointer none, u] w fun e w' => ∃ r, e = .returned r ∧ r = .tuple #[.agg #[.int .i64 0, .int .i64 0, .int .i64 0], .agg #[.int .i64 0, .int .i64 0, .int .i64 0], .int .i64 0, .int .i64 12] ∧ Below w.heap.size w w' := by
 obtain ⟨uh, ul, rfl, hz⟩ := hz
 refine calls_Wp (args := [_, _]) (n := 50) Tryz.func17 rfl rfl (by simp) ?_
 refine Wp.seq ?_
 refine wR [0, 1, 2, 3, 4] ?_
 refine sE (fun bk1 w1 kb1 lw1 => ?_)
 refine sO (fun bk2 w2 kb2 lw2 => ?_)
 refine sO (fun bk3 w3 kb3 lw3 => ?_)
 refine sZ 2 ?_
 refine Wp.seq ?_
 refine qQ 1 ?_
 refine s_nilEq (none) rfl rfl rfl rfl rfl ?_
 refine vOrd_nil ?_
 refine Wp.condT rfl rfl ?_
 refine Wp.seq ?_
 refine wR [0, 1, 2, 3, 4, 5] ?_
 refine sB ?_
 refine sB ?_
 refine sS (fun w5 sw5 vw5 => ?_)
 refine sS (fun w6 sw6 vw6 => ?_)
 refine sZ 2 ?_
 refine Wp.ret ⟨.inr rfl, fun lW => ⟨_, ⟨_, _, _, _, res_cell rfl rfl rfl rfl, res_cell rfl rfl rfl rfl, res_tmp (P := Tryz.prog) rfl rfl, res_tmp (P := Tryz.prog) rfl rfl, rfl⟩, _, rfl, ?_, lW⟩⟩
 clear lW
 rfl
set_option maxHeartbeats 1000000 in
theorem unlabels_far {w : World} {h b c : Nat} {R : Option Nat} {hs : List Nat} {t : Tb} {k : Int} (_hb : canBe t = true) (H : Ck w h b c R hs t k) (_hk : 0 ≤ k ∧ k ≤ 700000) {z : Int} {u : Value} (hz : IsW z u) (hB : inB (dayZ (ulZ z)) = false) : Calls Tryz.prog 17 #[.pointer (some ⟨h, 0, none⟩), u] w fun e w' => ∃ v, e = .returned v ∧ (∃ cs', (v = .tuple #[.agg #[.int .i64 0, .int .i64 0, .int .i64 0], .agg #[.int .i64 0, .int .i64 0, .int .i64 0], .int .i64 0, .int .i64 2] ∧ ∃ R' k', Nx w R R' ∧ (k ≤ k' ∧ k' ≤ k + 60) ∧ Ck w' h b c R' hs t k') ∧ Var w' b cs') ∧ w.grownBy w' (some b) := by
 obtain ⟨uh, ul, rfl, hz⟩ := hz
 obtain ⟨hL, hBK⟩ := H
 obtain ⟨cs0, hv⟩ := hL.var
 refine calls_WpC (args := [_, _]) (n := 50) hv Tryz.func17 rfl rfl (by simp) ?_
 refine Wp.seq ?_
 refine wR [0, 1, 2, 3, 4] ?_
 refine sE (fun bk1 w1 kb1 lw1 => ?_)
 have nL3 := hL.ne kb1
 have nB3 := hBK.ne kb1
 replace hL := hL.later lw1
 replace hBK := hBK.later lw1
 have hs3 := lw1.size
 refine sO (fun bk2 w2 kb2 lw2 => ?_)
 have nL4 := hL.ne kb2
 have nB4 := hBK.ne kb2
 replace hL := hL.later lw2
 replace hBK := hBK.later lw2
 have hs4 := lw2.size
 refine sO (fun bk3 w3 kb3 lw3 => ?_)
 have nL5 := hL.ne kb3
 have nB5 := hBK.ne kb3
 replace hL := hL.later lw3
 replace hBK := hBK.later lw3
 have hs5 := lw3.size
 refine sZ 2 ?_
 refine Wp.seq ?_
 refine qQ 1 ?_
 refine s_nilEq (some ⟨h, 0, none⟩) rfl rfl rfl rfl rfl ?_
 refine vOrd_nil ?_
 refine Wp.condF rfl rfl ?_
 refine Wp.skip ?_
 refine qQ 1 ?_
 refine sT (unplain_far ⟨_, _, rfl, hz⟩ hB) ?_
 rintro v w5 rfl lw5
 have hsllw5 := lw5.size
 try replace hL := hL.later lw5
 try replace hBK := hBK.later lw5
 try replace hvh := hvh.later lw5
 refine sQ 3 ?_
 refine sO (fun bk6 w6 kb6 lw6 => ?_)
 have nL8 := hL.ne kb6
 have nB8 := hBK.ne kb6
 replace hL := hL.later lw6
 replace hBK := hBK.later lw6
 have hs8 := lw6.size
 refine sS (fun w7 sw7 vw7 => ?_)
 replace hL := hL.sto sw7 nL8
 replace hBK := hBK.sto sw7 nB8
 refine sZ 1 ?_
 refine Wp.seq ?_
 refine qQ 1 ?_
 refine t_neq rfl rfl rfl rfl rfl (by omega) ?_
 refine vOrd_nil ?_
 refine Wp.condT rfl rfl ?_
 refine Wp.seq ?_
 refine wR [0, 1, 2, 3, 4, 5, 6] ?_
 refine sB ?_
 refine sB ?_
 refine sM ?_
 refine sS (fun w8 sw8 vw8 => ?_)
 replace hL := hL.sto sw8 nL4
 replace hBK := hBK.sto sw8 nB4
 refine sS (fun w9 sw9 vw9 => ?_)
 replace hL := hL.sto sw9 nL5
 replace hBK := hBK.sto sw9 nB5
 refine sZ 2 ?_
 refine Wp.ret ⟨.inr rfl, fun mW lW => ⟨_, ⟨_, _, _, _, res_cell rfl rfl rfl rfl, res_cell rfl rfl rfl rfl, res_tmp (P := Tryz.prog) rfl rfl, res_tmp (P := Tryz.prog) rfl rfl, rfl⟩, _, rfl, ?_, lW⟩⟩
 exact ⟨_, ⟨rfl, _, _, .inl rfl, ⟨by omega, by omega⟩, hL, hBK⟩, mW 899 _ _ rfl⟩
set_option maxHeartbeats 2000000 in
theorem unlabels_any {w : World} {h b c : Nat} {R : Option Nat} {hs : List Nat} {t : Tb} {k : Int} (hb : canBe t = true) (H : Ck w h b c R hs t k) (hk : 0 ≤ k ∧ k ≤ 700000) {z : Int} {u : Value} (hz : IsW z u) (hB : inB (dayZ (ulZ z)) = true) {J K J' K' : Nat} (hJ : CutP (pSD (dayZ (ulZ z))) pubS J) (hK : Cut (pDay (dayZ (ulZ z))) t.es K) (hJ' : CutP (pSD (dayZ (ulZ z) - 1)) pubS J') (hK' : Cut (pDay (dayZ (ulZ z) - 1)) t.es K') {p q : Bool} (hp : ulP t J' K' z = p) (hq : ulQ t J K z = q) : Calls Tryz.prog 17 #[.pointer (some ⟨h, 0, none⟩), u] w fun e w' => ∃ v, e = .returned v ∧ (∃ cs', (v = ulV p q (dayZ (ulZ z)) (secZ (ulZ z)) (attZ (ulZ z)) (ckE t true J K (dayZ (ulZ z)) (secZ (ulZ z)) (attZ (ulZ z))) ∧ ∃ R' k', Nx w R R' ∧ (k ≤ k' ∧ k' ≤ k + 60) ∧ Ck w' h b c R' hs t k') ∧ Var w' b cs') ∧ w.grownBy w' (some b) := by
 obtain ⟨uh, ul, rfl, hz⟩ := hz
 obtain ⟨hL, hBK⟩ := H
 obtain ⟨cs0, hv⟩ := hL.var
 have hB' := inB_iff.1 hB
 have hl := isL_iff.1 (joinZ (ulZ z)).1
 unfold ulP at hp
 unfold ulQ at hq
 have hpl := fun w : World => unplain_any ⟨_, _, rfl, hz⟩ hB (w := w)
 obtain ⟨D, hD⟩ : ∃ D, dayZ (ulZ z) = D := ⟨_, rfl⟩
 obtain ⟨S, hS⟩ : ∃ S, secZ (ulZ z) = S := ⟨_, rfl⟩
 obtain ⟨A, hA⟩ : ∃ A, attZ (ulZ z) = A := ⟨_, rfl⟩
 rw [hD] at hJ hK hJ' hK' hB'
 rw [hS] at hl
 rw [hA] at hl
 rw [hD, hS, hA] at hp hq hpl ⊢
 have hl' : (0 ≤ S ∧ S < 86400) ∧ 0 ≤ A ∧ A < 1000000000000000000 := by omega
 cases p with
 | false =>
  cases q with
  | false =>
   refine calls_WpC (args := [_, _]) (n := 50) hv Tryz.func17 rfl rfl (by simp) ?_
   refine Wp.seq ?_
   refine wR [0, 1, 2, 3, 4] ?_
   refine sE (fun bk1 w1 kb1 lw1 => ?_)
   have nL3 := hL.ne kb1
   have nB3 := hBK.ne kb1
   replace hL := hL.later lw1
   replace hBK := hBK.later lw1
   have hs3 := lw1.size
   refine sO (fun bk2 w2 kb2 lw2 => ?_)
   have nL4 := hL.ne kb2
   have nB4 := hBK.ne kb2
   replace hL := hL.later lw2
   replace hBK := hBK.later lw2
   have hs4 := lw2.size
   refine sO (fun bk3 w3 kb3 lw3 => ?_)
   have nL5 := hL.ne kb3
   have nB5 := hBK.ne kb3
   replace hL := hL.later lw3
   replace hBK := hBK.later lw3
   have hs5 := lw3.size
   refine sZ 2 ?_
   refine Wp.seq ?_
   refine qQ 1 ?_
   refine s_nilEq (some ⟨h, 0, none⟩) rfl rfl rfl rfl rfl ?_
   refine vOrd_nil ?_
   refine Wp.condF rfl rfl ?_
   refine Wp.skip ?_
   refine qQ 1 ?_
   refine sT (hpl _) ?_
   rintro v w5 rfl lw5
   have hsllw5 := lw5.size
   try replace hL := hL.later lw5
   try replace hBK := hBK.later lw5
   try replace hvh := hvh.later lw5
   try replace hrv := hrv.later lw5
   refine sQ 3 ?_
   refine sO (fun bk6 w6 kb6 lw6 => ?_)
   have nL8 := hL.ne kb6
   have nB8 := hBK.ne kb6
   replace hL := hL.later lw6
   replace hBK := hBK.later lw6
   have hs8 := lw6.size
   refine sS (fun w7 sw7 vw7 => ?_)
   replace hL := hL.sto sw7 nL8
   replace hBK := hBK.sto sw7 nB8
   try replace hrv := hrv.sto sw7 nG8
   refine sZ 1 ?_
   refine Wp.seq ?_
   refine qQ 1 ?_
   refine f_neq rfl rfl rfl rfl rfl (by omega) ?_
   refine vOrd_nil ?_
   refine Wp.condF rfl rfl ?_
   refine Wp.skip ?_
   refine Wp.seq ?_
   refine Wp.var (h := 3) rfl (fun v3 => ?_)
   have q3 := v3.lt
   refine Wp.var (h := 4) rfl (fun v4 => ?_)
   have q4 := v4.lt
   refine Wp.var (h := 5) rfl (fun v5 => ?_)
   have q5 := v5.lt
   refine Wp.var (h := 8) rfl (fun v8 => ?_)
   have q8 := v8.lt
   refine wQ 2 ?_
   refine s_callH 899 rfl rfl rfl (by kernel_rfl) rfl rfl (fun vr => (unthere_any hb ⟨hL, hBK⟩ ⟨by omega, by omega⟩ hB' hl' hJ hK hJ' hK' hp hq)) ?_
   rintro v cs8 w8 ⟨hown, R9, k9, hN9, hk9, hLq, hBq⟩ gw8 vw8
   replace hBK := hBK.grown gw8
   have hsg9 := gw8.size
   have mL3 := hN9.ne nL3.2.2 q3
   replace nL3 := And.intro nL3.1 (And.intro nL3.2.1 mL3)
   have mL4 := hN9.ne nL4.2.2 q4
   replace nL4 := And.intro nL4.1 (And.intro nL4.2.1 mL4)
   have mL5 := hN9.ne nL5.2.2 q5
   replace nL5 := And.intro nL5.1 (And.intro nL5.2.1 mL5)
   have mL8 := hN9.ne nL8.2.2 q8
   replace nL8 := And.intro nL8.1 (And.intro nL8.2.1 mL8)
   clear hL hBK
   have hL := hLq
   have hBK := hBq
   clear hLq hBq
   replace hown := (show World.ownsRow _ _ 23 3 v 0 [] from hown)
   obtain ⟨sa, sc, rfl⟩ := own_sliceK hown
   refine sZ 1 ?_
   refine Wp.seq ?_
   refine qQ 1 ?_
   refine x_len rfl rfl rfl rfl rfl ?_
   refine t_eql rfl rfl rfl rfl rfl (by omega) ?_
   refine vOrd_nil ?_
   refine Wp.condT rfl rfl ?_
   refine Wp.seq ?_
   refine Wp.var (h := 3) rfl (fun v3 => ?_)
   have q3 := v3.lt
   refine Wp.var (h := 4) rfl (fun v4 => ?_)
   have q4 := v4.lt
   refine Wp.var (h := 5) rfl (fun v5 => ?_)
   have q5 := v5.lt
   refine Wp.var (h := 8) rfl (fun v8 => ?_)
   have q8 := v8.lt
   refine wQ 2 ?_
   refine s_callH 899 rfl rfl rfl (by kernel_rfl) rfl rfl (fun vr => (ctai_any hb ⟨hL, hBK⟩ ⟨by omega, by omega⟩ (d := D) (s := S) (a := A) ⟨by omega, by omega⟩ ⟨by omega, by omega⟩ ⟨by omega, by omega⟩ true hJ hK)) ?_
   rintro v cs9 w9 ⟨⟨tu, rfl, th, tl, rfl, -⟩, R10, k10, hN10, hk10, hLq, hBq⟩ gw9 vw9
   replace hBK := hBK.grown gw9
   have mL3 := hN10.ne nL3.2.2 q3
   replace nL3 := And.intro nL3.1 (And.intro nL3.2.1 mL3)
   have mL4 := hN10.ne nL4.2.2 q4
   replace nL4 := And.intro nL4.1 (And.intro nL4.2.1 mL4)
   have mL5 := hN10.ne nL5.2.2 q5
   replace nL5 := And.intro nL5.1 (And.intro nL5.2.1 mL5)
   have mL8 := hN10.ne nL8.2.2 q8
   replace nL8 := And.intro nL8.1 (And.intro nL8.2.1 mL8)
   clear hL hBK
   have hL := hLq
   have hBK := hBq
   clear hLq hBq
   refine sZ 4 ?_
   refine Wp.seq ?_
   refine wR [0, 1, 2, 3, 4, 5, 6] ?_
   refine sB ?_
   refine sB ?_
   refine sM ?_
   refine sS (fun w10 sw10 vw10 => ?_)
   replace hL := hL.sto sw10 nL4
   replace hBK := hBK.sto sw10 nB4
   try replace hrv := hrv.sto sw10 nG4
   refine sS (fun w11 sw11 vw11 => ?_)
   replace hL := hL.sto sw11 nL5
   replace hBK := hBK.sto sw11 nB5
   try replace hrv := hrv.sto sw11 nG5
   refine sZ 2 ?_
   refine Wp.ret ⟨.inr rfl, fun mW lW => ⟨_, ⟨_, _, _, _, res_cell rfl rfl rfl rfl, res_cell rfl rfl rfl rfl, res_tmp (P := Tryz.prog) rfl rfl, res_tmp (P := Tryz.prog) rfl rfl, rfl⟩, _, rfl, ?_, lW⟩⟩
   exact ⟨_, ⟨rfl, _, _, (hN9.first (by omega)).trans hN10 (by omega), ⟨by omega, by omega⟩, hL, hBK⟩, mW 899 _ _ rfl⟩
  | true =>
   refine calls_WpC (args := [_, _]) (n := 50) hv Tryz.func17 rfl rfl (by simp) ?_
   refine Wp.seq ?_
   refine wR [0, 1, 2, 3, 4] ?_
   refine sE (fun bk1 w1 kb1 lw1 => ?_)
   have nL3 := hL.ne kb1
   have nB3 := hBK.ne kb1
   replace hL := hL.later lw1
   replace hBK := hBK.later lw1
   have hs3 := lw1.size
   refine sO (fun bk2 w2 kb2 lw2 => ?_)
   have nL4 := hL.ne kb2
   have nB4 := hBK.ne kb2
   replace hL := hL.later lw2
   replace hBK := hBK.later lw2
   have hs4 := lw2.size
   refine sO (fun bk3 w3 kb3 lw3 => ?_)
   have nL5 := hL.ne kb3
   have nB5 := hBK.ne kb3
   replace hL := hL.later lw3
   replace hBK := hBK.later lw3
   have hs5 := lw3.size
   refine sZ 2 ?_
   refine Wp.seq ?_
   refine qQ 1 ?_
   refine s_nilEq (some ⟨h, 0, none⟩) rfl rfl rfl rfl rfl ?_
   refine vOrd_nil ?_
   refine Wp.condF rfl rfl ?_
   refine Wp.skip ?_
   refine qQ 1 ?_
   refine sT (hpl _) ?_
   rintro v w5 rfl lw5
   have hsllw5 := lw5.size
   try replace hL := hL.later lw5
   try replace hBK := hBK.later lw5
   try replace hvh := hvh.later lw5
   try replace hrv := hrv.later lw5
   refine sQ 3 ?_
   refine sO (fun bk6 w6 kb6 lw6 => ?_)
   have nL8 := hL.ne kb6
   have nB8 := hBK.ne kb6
   replace hL := hL.later lw6
   replace hBK := hBK.later lw6
   have hs8 := lw6.size
   refine sS (fun w7 sw7 vw7 => ?_)
   replace hL := hL.sto sw7 nL8
   replace hBK := hBK.sto sw7 nB8
   try replace hrv := hrv.sto sw7 nG8
   refine sZ 1 ?_
   refine Wp.seq ?_
   refine qQ 1 ?_
   refine f_neq rfl rfl rfl rfl rfl (by omega) ?_
   refine vOrd_nil ?_
   refine Wp.condF rfl rfl ?_
   refine Wp.skip ?_
   refine Wp.seq ?_
   refine Wp.var (h := 3) rfl (fun v3 => ?_)
   have q3 := v3.lt
   refine Wp.var (h := 4) rfl (fun v4 => ?_)
   have q4 := v4.lt
   refine Wp.var (h := 5) rfl (fun v5 => ?_)
   have q5 := v5.lt
   refine Wp.var (h := 8) rfl (fun v8 => ?_)
   have q8 := v8.lt
   refine wQ 2 ?_
   refine s_callH 899 rfl rfl rfl (by kernel_rfl) rfl rfl (fun vr => (unthere_any hb ⟨hL, hBK⟩ ⟨by omega, by omega⟩ hB' hl' hJ hK hJ' hK' hp hq)) ?_
   rintro v cs8 w8 ⟨hown, R9, k9, hN9, hk9, hLq, hBq⟩ gw8 vw8
   replace hBK := hBK.grown gw8
   have hsg9 := gw8.size
   have mL3 := hN9.ne nL3.2.2 q3
   replace nL3 := And.intro nL3.1 (And.intro nL3.2.1 mL3)
   have mL4 := hN9.ne nL4.2.2 q4
   replace nL4 := And.intro nL4.1 (And.intro nL4.2.1 mL4)
   have mL5 := hN9.ne nL5.2.2 q5
   replace nL5 := And.intro nL5.1 (And.intro nL5.2.1 mL5)
   have mL8 := hN9.ne nL8.2.2 q8
   replace nL8 := And.intro nL8.1 (And.intro nL8.2.1 mL8)
   clear hL hBK
   have hL := hLq
   have hBK := hBq
   clear hLq hBq
   replace hown := (show World.ownsRow _ _ 23 3 v 1 [.int .i64 D, .int .i64 S, .int .i64 A] from hown)
   obtain ⟨g, cap, cs, rfl, hg, hrow, hcap, hlen, htake, -⟩ := own_rowK hown (by omega)
   have hrv := hrow.var
   clear hrow hown
   have nG4 : g ≠ bk2 := by omega
   have nG5 : g ≠ bk3 := by omega
   refine sZ 1 ?_
   refine Wp.seq ?_
   refine qQ 1 ?_
   refine x_len rfl rfl rfl rfl rfl ?_
   refine f_eql rfl rfl rfl rfl rfl (by omega) ?_
   refine vOrd_nil ?_
   refine Wp.condF rfl rfl ?_
   refine Wp.skip ?_
   refine Wp.seq ?_
   refine Wp.drawnM (by kernel_rfl) (by kernel_rfl) (by kernel_rfl) [0, 1, 3, 4, 5, 6, 7, 9, 10] 6 #[true, true, false, true, true, true, true, true, false, true, true, false, false, false, false] rfl (by kernel_rfl) (by kernel_rfl) (fun wd ld => ?_)
   have hslld := ld.size
   try replace hL := hL.later ld
   try replace hBK := hBK.later ld
   try replace hvh := hvh.later ld
   try replace hrv := hrv.later ld
   refine vM_op rfl rfl ?_
   refine sZ 1 ?_
   refine vM_op rfl rfl ?_
   refine sI (sz := 3) (0 * 3) ?_
   refine vOrd_nil ?_
   refine vM_op rfl rfl ?_
   refine sZ 1 ?_
   refine vM_op rfl rfl ?_
   refine sZ 1 ?_
   refine vM_len rfl rfl rfl rfl ?_
   refine vM_op rfl rfl ?_
   refine aM (-9223372036854775808) 9223372036854775807 ?_
   refine vOrd_nil ?_
   refine vM_op rfl rfl ?_
   refine sI (sz := 3) (0 * 3) ?_
   refine vOrd_nil ?_
   refine vM_op rfl rfl ?_
   refine sZ 1 ?_
   refine vM_len rfl rfl rfl rfl ?_
   refine vM_nil ?_
   refine vTree_two (i := 2) (k := 8) (L1 := #[true, true, true, true, true, true, true, true, false, true, true, false, false, false, false]) (L2 := #[true, true, false, true, true, true, true, true, true, true, true, false, false, false, false]) (by kernel_rfl) (by kernel_rfl) (by kernel_rfl) ?_ ?_
   ·refine x_ldA [.int .i64 D, .int .i64 S, .int .i64 A] rfl rfl rfl rfl rfl rfl hrv.lt (fun j u hj => ?_) ?_
    ·match j, hj with
     | 0, hj => cases hj; exact (cell_var hrv 0).trans (take_atB htake rfl)
     | 1, hj => cases hj; exact (cell_var hrv 1).trans (take_atB htake rfl)
     | 2, hj => cases hj; exact (cell_var hrv 2).trans (take_atB htake rfl)
    refine vOrd_nil ?_
    refine vTree_two (i := 8) (k := 11) (L1 := #[true, true, true, true, true, true, true, true, true, true, true, false, false, false, false]) (L2 := #[true, true, true, true, true, true, true, true, false, true, true, true, false, false, false]) (by kernel_rfl) (by kernel_rfl) (by kernel_rfl) ?_ ?_
    ·refine x_ldA [.int .i64 D, .int .i64 S, .int .i64 A] rfl rfl rfl rfl rfl rfl hrv.lt (fun j u hj => ?_) ?_
     ·match j, hj with
      | 0, hj => cases hj; exact (cell_var hrv 0).trans (take_atB htake rfl)
      | 1, hj => cases hj; exact (cell_var hrv 1).trans (take_atB htake rfl)
      | 2, hj => cases hj; exact (cell_var hrv 2).trans (take_atB htake rfl)
     refine vOrd_nil ?_
     refine vT 11 ?_
     refine sS (fun w21 sw21 vw21 => ?_)
     replace hL := hL.sto sw21 nL4
     replace hBK := hBK.sto sw21 nB4
     try replace hrv := hrv.sto sw21 nG4
     refine vOrd_nil ?_
     refine vT 12 ?_
     refine sS (fun w22 sw22 vw22 => ?_)
     replace hL := hL.sto sw22 nL5
     replace hBK := hBK.sto sw22 nB5
     try replace hrv := hrv.sto sw22 nG5
     refine vOrd_nil ?_
     refine vT 13 ?_
     refine sZ 1 ?_
     refine vT 14 ?_
     refine sZ 1 ?_
     refine vTree_end (by kernel_rfl) ?_
     refine Wp.ret ⟨.inr rfl, fun mW lW => ⟨_, ⟨_, _, _, _, res_cell rfl rfl rfl rfl, res_cell rfl rfl rfl rfl, res_tmp (P := Tryz.prog) rfl rfl, res_tmp (P := Tryz.prog) rfl rfl, rfl⟩, _, rfl, ?_, lW⟩⟩
     exact ⟨_, ⟨rfl, _, _, hN9.first (by omega), ⟨by omega, by omega⟩, hL, hBK⟩, mW 899 _ _ rfl⟩
    ·refine sS (fun w23 sw23 vw23 => ?_)
     replace hL := hL.sto sw23 nL4
     replace hBK := hBK.sto sw23 nB4
     try replace hrv := hrv.sto sw23 nG4
     refine vOrd_nil ?_
     refine vT 8 ?_
     refine x_ldA [.int .i64 D, .int .i64 S, .int .i64 A] rfl rfl rfl rfl rfl rfl hrv.lt (fun j u hj => ?_) ?_
     ·match j, hj with
      | 0, hj => cases hj; exact (cell_var hrv 0).trans (take_atB htake rfl)
      | 1, hj => cases hj; exact (cell_var hrv 1).trans (take_atB htake rfl)
      | 2, hj => cases hj; exact (cell_var hrv 2).trans (take_atB htake rfl)
     refine vOrd_nil ?_
     refine vT 12 ?_
     refine sS (fun w29 sw29 vw29 => ?_)
     replace hL := hL.sto sw29 nL5
     replace hBK := hBK.sto sw29 nB5
     try replace hrv := hrv.sto sw29 nG5
     refine vOrd_nil ?_
     refine vT 13 ?_
     refine sZ 1 ?_
     refine vT 14 ?_
     refine sZ 1 ?_
     refine vTree_end (by kernel_rfl) ?_
     refine Wp.ret ⟨.inr rfl, fun mW lW => ⟨_, ⟨_, _, _, _, res_cell rfl rfl rfl rfl, res_cell rfl rfl rfl rfl, res_tmp (P := Tryz.prog) rfl rfl, res_tmp (P := Tryz.prog) rfl rfl, rfl⟩, _, rfl, ?_, lW⟩⟩
     exact ⟨_, ⟨rfl, _, _, hN9.first (by omega), ⟨by omega, by omega⟩, hL, hBK⟩, mW 899 _ _ rfl⟩
   ·refine x_ldA [.int .i64 D, .int .i64 S, .int .i64 A] rfl rfl rfl rfl rfl rfl hrv.lt (fun j u hj => ?_) ?_
    ·match j, hj with
     | 0, hj => cases hj; exact (cell_var hrv 0).trans (take_atB htake rfl)
     | 1, hj => cases hj; exact (cell_var hrv 1).trans (take_atB htake rfl)
     | 2, hj => cases hj; exact (cell_var hrv 2).trans (take_atB htake rfl)
    refine vOrd_nil ?_
    refine vT 2 ?_
    refine x_ldA [.int .i64 D, .int .i64 S, .int .i64 A] rfl rfl rfl rfl rfl rfl hrv.lt (fun j u hj => ?_) ?_
    ·match j, hj with
     | 0, hj => cases hj; exact (cell_var hrv 0).trans (take_atB htake rfl)
     | 1, hj => cases hj; exact (cell_var hrv 1).trans (take_atB htake rfl)
     | 2, hj => cases hj; exact (cell_var hrv 2).trans (take_atB htake rfl)
    refine vOrd_nil ?_
    refine vT 11 ?_
    refine sS (fun w40 sw40 vw40 => ?_)
    replace hL := hL.sto sw40 nL4
    replace hBK := hBK.sto sw40 nB4
    try replace hrv := hrv.sto sw40 nG4
    refine vOrd_nil ?_
    refine vT 12 ?_
    refine sS (fun w41 sw41 vw41 => ?_)
    replace hL := hL.sto sw41 nL5
    replace hBK := hBK.sto sw41 nB5
    try replace hrv := hrv.sto sw41 nG5
    refine vOrd_nil ?_
    refine vT 13 ?_
    refine sZ 1 ?_
    refine vT 14 ?_
    refine sZ 1 ?_
    refine vTree_end (by kernel_rfl) ?_
    refine Wp.ret ⟨.inr rfl, fun mW lW => ⟨_, ⟨_, _, _, _, res_cell rfl rfl rfl rfl, res_cell rfl rfl rfl rfl, res_tmp (P := Tryz.prog) rfl rfl, res_tmp (P := Tryz.prog) rfl rfl, rfl⟩, _, rfl, ?_, lW⟩⟩
    exact ⟨_, ⟨rfl, _, _, hN9.first (by omega), ⟨by omega, by omega⟩, hL, hBK⟩, mW 899 _ _ rfl⟩
 | true =>
  cases q with
  | false =>
   refine calls_WpC (args := [_, _]) (n := 50) hv Tryz.func17 rfl rfl (by simp) ?_
   refine Wp.seq ?_
   refine wR [0, 1, 2, 3, 4] ?_
   refine sE (fun bk1 w1 kb1 lw1 => ?_)
   have nL3 := hL.ne kb1
   have nB3 := hBK.ne kb1
   replace hL := hL.later lw1
   replace hBK := hBK.later lw1
   have hs3 := lw1.size
   refine sO (fun bk2 w2 kb2 lw2 => ?_)
   have nL4 := hL.ne kb2
   have nB4 := hBK.ne kb2
   replace hL := hL.later lw2
   replace hBK := hBK.later lw2
   have hs4 := lw2.size
   refine sO (fun bk3 w3 kb3 lw3 => ?_)
   have nL5 := hL.ne kb3
   have nB5 := hBK.ne kb3
   replace hL := hL.later lw3
   replace hBK := hBK.later lw3
   have hs5 := lw3.size
   refine sZ 2 ?_
   refine Wp.seq ?_
   refine qQ 1 ?_
   refine s_nilEq (some ⟨h, 0, none⟩) rfl rfl rfl rfl rfl ?_
   refine vOrd_nil ?_
   refine Wp.condF rfl rfl ?_
   refine Wp.skip ?_
   refine qQ 1 ?_
   refine sT (hpl _) ?_
   rintro v w5 rfl lw5
   have hsllw5 := lw5.size
   try replace hL := hL.later lw5
   try replace hBK := hBK.later lw5
   try replace hvh := hvh.later lw5
   try replace hrv := hrv.later lw5
   refine sQ 3 ?_
   refine sO (fun bk6 w6 kb6 lw6 => ?_)
   have nL8 := hL.ne kb6
   have nB8 := hBK.ne kb6
   replace hL := hL.later lw6
   replace hBK := hBK.later lw6
   have hs8 := lw6.size
   refine sS (fun w7 sw7 vw7 => ?_)
   replace hL := hL.sto sw7 nL8
   replace hBK := hBK.sto sw7 nB8
   try replace hrv := hrv.sto sw7 nG8
   refine sZ 1 ?_
   refine Wp.seq ?_
   refine qQ 1 ?_
   refine f_neq rfl rfl rfl rfl rfl (by omega) ?_
   refine vOrd_nil ?_
   refine Wp.condF rfl rfl ?_
   refine Wp.skip ?_
   refine Wp.seq ?_
   refine Wp.var (h := 3) rfl (fun v3 => ?_)
   have q3 := v3.lt
   refine Wp.var (h := 4) rfl (fun v4 => ?_)
   have q4 := v4.lt
   refine Wp.var (h := 5) rfl (fun v5 => ?_)
   have q5 := v5.lt
   refine Wp.var (h := 8) rfl (fun v8 => ?_)
   have q8 := v8.lt
   refine wQ 2 ?_
   refine s_callH 899 rfl rfl rfl (by kernel_rfl) rfl rfl (fun vr => (unthere_any hb ⟨hL, hBK⟩ ⟨by omega, by omega⟩ hB' hl' hJ hK hJ' hK' hp hq)) ?_
   rintro v cs8 w8 ⟨hown, R9, k9, hN9, hk9, hLq, hBq⟩ gw8 vw8
   replace hBK := hBK.grown gw8
   have hsg9 := gw8.size
   have mL3 := hN9.ne nL3.2.2 q3
   replace nL3 := And.intro nL3.1 (And.intro nL3.2.1 mL3)
   have mL4 := hN9.ne nL4.2.2 q4
   replace nL4 := And.intro nL4.1 (And.intro nL4.2.1 mL4)
   have mL5 := hN9.ne nL5.2.2 q5
   replace nL5 := And.intro nL5.1 (And.intro nL5.2.1 mL5)
   have mL8 := hN9.ne nL8.2.2 q8
   replace nL8 := And.intro nL8.1 (And.intro nL8.2.1 mL8)
   clear hL hBK
   have hL := hLq
   have hBK := hBq
   clear hLq hBq
   replace hown := (show World.ownsRow _ _ 23 3 v 1 [.int .i64 (D - 1), .int .i64 86400, .int .i64 A] from hown)
   obtain ⟨g, cap, cs, rfl, hg, hrow, hcap, hlen, htake, -⟩ := own_rowK hown (by omega)
   have hrv := hrow.var
   clear hrow hown
   have nG4 : g ≠ bk2 := by omega
   have nG5 : g ≠ bk3 := by omega
   refine sZ 1 ?_
   refine Wp.seq ?_
   refine qQ 1 ?_
   refine x_len rfl rfl rfl rfl rfl ?_
   refine f_eql rfl rfl rfl rfl rfl (by omega) ?_
   refine vOrd_nil ?_
   refine Wp.condF rfl rfl ?_
   refine Wp.skip ?_
   refine Wp.seq ?_
   refine Wp.drawnM (by kernel_rfl) (by kernel_rfl) (by kernel_rfl) [0, 1, 3, 4, 5, 6, 7, 9, 10] 6 #[true, true, false, true, true, true, true, true, false, true, true, false, false, false, false] rfl (by kernel_rfl) (by kernel_rfl) (fun wd ld => ?_)
   have hslld := ld.size
   try replace hL := hL.later ld
   try replace hBK := hBK.later ld
   try replace hvh := hvh.later ld
   try replace hrv := hrv.later ld
   refine vM_op rfl rfl ?_
   refine sZ 1 ?_
   refine vM_op rfl rfl ?_
   refine sI (sz := 3) (0 * 3) ?_
   refine vOrd_nil ?_
   refine vM_op rfl rfl ?_
   refine sZ 1 ?_
   refine vM_op rfl rfl ?_
   refine sZ 1 ?_
   refine vM_len rfl rfl rfl rfl ?_
   refine vM_op rfl rfl ?_
   refine aM (-9223372036854775808) 9223372036854775807 ?_
   refine vOrd_nil ?_
   refine vM_op rfl rfl ?_
   refine sI (sz := 3) (0 * 3) ?_
   refine vOrd_nil ?_
   refine vM_op rfl rfl ?_
   refine sZ 1 ?_
   refine vM_len rfl rfl rfl rfl ?_
   refine vM_nil ?_
   refine vTree_two (i := 2) (k := 8) (L1 := #[true, true, true, true, true, true, true, true, false, true, true, false, false, false, false]) (L2 := #[true, true, false, true, true, true, true, true, true, true, true, false, false, false, false]) (by kernel_rfl) (by kernel_rfl) (by kernel_rfl) ?_ ?_
   ·refine x_ldA [.int .i64 (D - 1), .int .i64 86400, .int .i64 A] rfl rfl rfl rfl rfl rfl hrv.lt (fun j u hj => ?_) ?_
    ·match j, hj with
     | 0, hj => cases hj; exact (cell_var hrv 0).trans (take_atB htake rfl)
     | 1, hj => cases hj; exact (cell_var hrv 1).trans (take_atB htake rfl)
     | 2, hj => cases hj; exact (cell_var hrv 2).trans (take_atB htake rfl)
    refine vOrd_nil ?_
    refine vTree_two (i := 8) (k := 11) (L1 := #[true, true, true, true, true, true, true, true, true, true, true, false, false, false, false]) (L2 := #[true, true, true, true, true, true, true, true, false, true, true, true, false, false, false]) (by kernel_rfl) (by kernel_rfl) (by kernel_rfl) ?_ ?_
    ·refine x_ldA [.int .i64 (D - 1), .int .i64 86400, .int .i64 A] rfl rfl rfl rfl rfl rfl hrv.lt (fun j u hj => ?_) ?_
     ·match j, hj with
      | 0, hj => cases hj; exact (cell_var hrv 0).trans (take_atB htake rfl)
      | 1, hj => cases hj; exact (cell_var hrv 1).trans (take_atB htake rfl)
      | 2, hj => cases hj; exact (cell_var hrv 2).trans (take_atB htake rfl)
     refine vOrd_nil ?_
     refine vT 11 ?_
     refine sS (fun w21 sw21 vw21 => ?_)
     replace hL := hL.sto sw21 nL4
     replace hBK := hBK.sto sw21 nB4
     try replace hrv := hrv.sto sw21 nG4
     refine vOrd_nil ?_
     refine vT 12 ?_
     refine sS (fun w22 sw22 vw22 => ?_)
     replace hL := hL.sto sw22 nL5
     replace hBK := hBK.sto sw22 nB5
     try replace hrv := hrv.sto sw22 nG5
     refine vOrd_nil ?_
     refine vT 13 ?_
     refine sZ 1 ?_
     refine vT 14 ?_
     refine sZ 1 ?_
     refine vTree_end (by kernel_rfl) ?_
     refine Wp.ret ⟨.inr rfl, fun mW lW => ⟨_, ⟨_, _, _, _, res_cell rfl rfl rfl rfl, res_cell rfl rfl rfl rfl, res_tmp (P := Tryz.prog) rfl rfl, res_tmp (P := Tryz.prog) rfl rfl, rfl⟩, _, rfl, ?_, lW⟩⟩
     exact ⟨_, ⟨rfl, _, _, hN9.first (by omega), ⟨by omega, by omega⟩, hL, hBK⟩, mW 899 _ _ rfl⟩
    ·refine sS (fun w23 sw23 vw23 => ?_)
     replace hL := hL.sto sw23 nL4
     replace hBK := hBK.sto sw23 nB4
     try replace hrv := hrv.sto sw23 nG4
     refine vOrd_nil ?_
     refine vT 8 ?_
     refine x_ldA [.int .i64 (D - 1), .int .i64 86400, .int .i64 A] rfl rfl rfl rfl rfl rfl hrv.lt (fun j u hj => ?_) ?_
     ·match j, hj with
      | 0, hj => cases hj; exact (cell_var hrv 0).trans (take_atB htake rfl)
      | 1, hj => cases hj; exact (cell_var hrv 1).trans (take_atB htake rfl)
      | 2, hj => cases hj; exact (cell_var hrv 2).trans (take_atB htake rfl)
     refine vOrd_nil ?_
     refine vT 12 ?_
     refine sS (fun w29 sw29 vw29 => ?_)
     replace hL := hL.sto sw29 nL5
     replace hBK := hBK.sto sw29 nB5
     try replace hrv := hrv.sto sw29 nG5
     refine vOrd_nil ?_
     refine vT 13 ?_
     refine sZ 1 ?_
     refine vT 14 ?_
     refine sZ 1 ?_
     refine vTree_end (by kernel_rfl) ?_
     refine Wp.ret ⟨.inr rfl, fun mW lW => ⟨_, ⟨_, _, _, _, res_cell rfl rfl rfl rfl, res_cell rfl rfl rfl rfl, res_tmp (P := Tryz.prog) rfl rfl, res_tmp (P := Tryz.prog) rfl rfl, rfl⟩, _, rfl, ?_, lW⟩⟩
     exact ⟨_, ⟨rfl, _, _, hN9.first (by omega), ⟨by omega, by omega⟩, hL, hBK⟩, mW 899 _ _ rfl⟩
   ·refine x_ldA [.int .i64 (D - 1), .int .i64 86400, .int .i64 A] rfl rfl rfl rfl rfl rfl hrv.lt (fun j u hj => ?_) ?_
    ·match j, hj with
     | 0, hj => cases hj; exact (cell_var hrv 0).trans (take_atB htake rfl)
     | 1, hj => cases hj; exact (cell_var hrv 1).trans (take_atB htake rfl)
     | 2, hj => cases hj; exact (cell_var hrv 2).trans (take_atB htake rfl)
    refine vOrd_nil ?_
    refine vT 2 ?_
    refine x_ldA [.int .i64 (D - 1), .int .i64 86400, .int .i64 A] rfl rfl rfl rfl rfl rfl hrv.lt (fun j u hj => ?_) ?_
    ·match j, hj with
     | 0, hj => cases hj; exact (cell_var hrv 0).trans (take_atB htake rfl)
     | 1, hj => cases hj; exact (cell_var hrv 1).trans (take_atB htake rfl)
     | 2, hj => cases hj; exact (cell_var hrv 2).trans (take_atB htake rfl)
    refine vOrd_nil ?_
    refine vT 11 ?_
    refine sS (fun w40 sw40 vw40 => ?_)
    replace hL := hL.sto sw40 nL4
    replace hBK := hBK.sto sw40 nB4
    try replace hrv := hrv.sto sw40 nG4
    refine vOrd_nil ?_
    refine vT 12 ?_
    refine sS (fun w41 sw41 vw41 => ?_)
    replace hL := hL.sto sw41 nL5
    replace hBK := hBK.sto sw41 nB5
    try replace hrv := hrv.sto sw41 nG5
    refine vOrd_nil ?_
    refine vT 13 ?_
    refine sZ 1 ?_
    refine vT 14 ?_
    refine sZ 1 ?_
    refine vTree_end (by kernel_rfl) ?_
    refine Wp.ret ⟨.inr rfl, fun mW lW => ⟨_, ⟨_, _, _, _, res_cell rfl rfl rfl rfl, res_cell rfl rfl rfl rfl, res_tmp (P := Tryz.prog) rfl rfl, res_tmp (P := Tryz.prog) rfl rfl, rfl⟩, _, rfl, ?_, lW⟩⟩
    exact ⟨_, ⟨rfl, _, _, hN9.first (by omega), ⟨by omega, by omega⟩, hL, hBK⟩, mW 899 _ _ rfl⟩
  | true =>
   refine calls_WpC (args := [_, _]) (n := 50) hv Tryz.func17 rfl rfl (by simp) ?_
   refine Wp.seq ?_
   refine wR [0, 1, 2, 3, 4] ?_
   refine sE (fun bk1 w1 kb1 lw1 => ?_)
   have nL3 := hL.ne kb1
   have nB3 := hBK.ne kb1
   replace hL := hL.later lw1
   replace hBK := hBK.later lw1
   have hs3 := lw1.size
   refine sO (fun bk2 w2 kb2 lw2 => ?_)
   have nL4 := hL.ne kb2
   have nB4 := hBK.ne kb2
   replace hL := hL.later lw2
   replace hBK := hBK.later lw2
   have hs4 := lw2.size
   refine sO (fun bk3 w3 kb3 lw3 => ?_)
   have nL5 := hL.ne kb3
   have nB5 := hBK.ne kb3
   replace hL := hL.later lw3
   replace hBK := hBK.later lw3
   have hs5 := lw3.size
   refine sZ 2 ?_
   refine Wp.seq ?_
   refine qQ 1 ?_
   refine s_nilEq (some ⟨h, 0, none⟩) rfl rfl rfl rfl rfl ?_
   refine vOrd_nil ?_
   refine Wp.condF rfl rfl ?_
   refine Wp.skip ?_
   refine qQ 1 ?_
   refine sT (hpl _) ?_
   rintro v w5 rfl lw5
   have hsllw5 := lw5.size
   try replace hL := hL.later lw5
   try replace hBK := hBK.later lw5
   try replace hvh := hvh.later lw5
   try replace hrv := hrv.later lw5
   refine sQ 3 ?_
   refine sO (fun bk6 w6 kb6 lw6 => ?_)
   have nL8 := hL.ne kb6
   have nB8 := hBK.ne kb6
   replace hL := hL.later lw6
   replace hBK := hBK.later lw6
   have hs8 := lw6.size
   refine sS (fun w7 sw7 vw7 => ?_)
   replace hL := hL.sto sw7 nL8
   replace hBK := hBK.sto sw7 nB8
   try replace hrv := hrv.sto sw7 nG8
   refine sZ 1 ?_
   refine Wp.seq ?_
   refine qQ 1 ?_
   refine f_neq rfl rfl rfl rfl rfl (by omega) ?_
   refine vOrd_nil ?_
   refine Wp.condF rfl rfl ?_
   refine Wp.skip ?_
   refine Wp.seq ?_
   refine Wp.var (h := 3) rfl (fun v3 => ?_)
   have q3 := v3.lt
   refine Wp.var (h := 4) rfl (fun v4 => ?_)
   have q4 := v4.lt
   refine Wp.var (h := 5) rfl (fun v5 => ?_)
   have q5 := v5.lt
   refine Wp.var (h := 8) rfl (fun v8 => ?_)
   have q8 := v8.lt
   refine wQ 2 ?_
   refine s_callH 899 rfl rfl rfl (by kernel_rfl) rfl rfl (fun vr => (unthere_any hb ⟨hL, hBK⟩ ⟨by omega, by omega⟩ hB' hl' hJ hK hJ' hK' hp hq)) ?_
   rintro v cs8 w8 ⟨hown, R9, k9, hN9, hk9, hLq, hBq⟩ gw8 vw8
   replace hBK := hBK.grown gw8
   have hsg9 := gw8.size
   have mL3 := hN9.ne nL3.2.2 q3
   replace nL3 := And.intro nL3.1 (And.intro nL3.2.1 mL3)
   have mL4 := hN9.ne nL4.2.2 q4
   replace nL4 := And.intro nL4.1 (And.intro nL4.2.1 mL4)
   have mL5 := hN9.ne nL5.2.2 q5
   replace nL5 := And.intro nL5.1 (And.intro nL5.2.1 mL5)
   have mL8 := hN9.ne nL8.2.2 q8
   replace nL8 := And.intro nL8.1 (And.intro nL8.2.1 mL8)
   clear hL hBK
   have hL := hLq
   have hBK := hBq
   clear hLq hBq
   replace hown := (show World.ownsRow _ _ 23 3 v 2 [.int .i64 (D - 1), .int .i64 86400, .int .i64 A, .int .i64 D, .int .i64 S, .int .i64 A] from hown)
   obtain ⟨g, cap, cs, rfl, hg, hrow, hcap, hlen, htake, -⟩ := own_rowK hown (by omega)
   have hrv := hrow.var
   clear hrow hown
   have nG4 : g ≠ bk2 := by omega
   have nG5 : g ≠ bk3 := by omega
   refine sZ 1 ?_
   refine Wp.seq ?_
   refine qQ 1 ?_
   refine x_len rfl rfl rfl rfl rfl ?_
   refine f_eql rfl rfl rfl rfl rfl (by omega) ?_
   refine vOrd_nil ?_
   refine Wp.condF rfl rfl ?_
   refine Wp.skip ?_
   refine Wp.seq ?_
   refine Wp.drawnM (by kernel_rfl) (by kernel_rfl) (by kernel_rfl) [0, 1, 3, 4, 5, 6, 7, 9, 10] 6 #[true, true, false, true, true, true, true, true, false, true, true, false, false, false, false] rfl (by kernel_rfl) (by kernel_rfl) (fun wd ld => ?_)
   have hslld := ld.size
   try replace hL := hL.later ld
   try replace hBK := hBK.later ld
   try replace hvh := hvh.later ld
   try replace hrv := hrv.later ld
   refine vM_op rfl rfl ?_
   refine sZ 1 ?_
   refine vM_op rfl rfl ?_
   refine sI (sz := 3) (0 * 3) ?_
   refine vOrd_nil ?_
   refine vM_op rfl rfl ?_
   refine sZ 1 ?_
   refine vM_op rfl rfl ?_
   refine sZ 1 ?_
   refine vM_len rfl rfl rfl rfl ?_
   refine vM_op rfl rfl ?_
   refine aM (-9223372036854775808) 9223372036854775807 ?_
   refine vOrd_nil ?_
   refine vM_op rfl rfl ?_
   refine sI (sz := 3) (1 * 3) ?_
   refine vOrd_nil ?_
   refine vM_op rfl rfl ?_
   refine sZ 1 ?_
   refine vM_len rfl rfl rfl rfl ?_
   refine vM_nil ?_
   refine vTree_two (i := 2) (k := 8) (L1 := #[true, true, true, true, true, true, true, true, false, true, true, false, false, false, false]) (L2 := #[true, true, false, true, true, true, true, true, true, true, true, false, false, false, false]) (by kernel_rfl) (by kernel_rfl) (by kernel_rfl) ?_ ?_
   ·refine x_ldA [.int .i64 (D - 1), .int .i64 86400, .int .i64 A] rfl rfl rfl rfl rfl rfl hrv.lt (fun j u hj => ?_) ?_
    ·match j, hj with
     | 0, hj => cases hj; exact (cell_var hrv 0).trans (take_atB htake rfl)
     | 1, hj => cases hj; exact (cell_var hrv 1).trans (take_atB htake rfl)
     | 2, hj => cases hj; exact (cell_var hrv 2).trans (take_atB htake rfl)
    refine vOrd_nil ?_
    refine vTree_two (i := 8) (k := 11) (L1 := #[true, true, true, true, true, true, true, true, true, true, true, false, false, false, false]) (L2 := #[true, true, true, true, true, true, true, true, false, true, true, true, false, false, false]) (by kernel_rfl) (by kernel_rfl) (by kernel_rfl) ?_ ?_
    ·refine x_ldA [.int .i64 D, .int .i64 S, .int .i64 A] rfl rfl rfl rfl rfl rfl hrv.lt (fun j u hj => ?_) ?_
     ·match j, hj with
      | 0, hj => cases hj; exact (cell_var hrv 3).trans (take_atB htake rfl)
      | 1, hj => cases hj; exact (cell_var hrv 4).trans (take_atB htake rfl)
      | 2, hj => cases hj; exact (cell_var hrv 5).trans (take_atB htake rfl)
     refine vOrd_nil ?_
     refine vT 11 ?_
     refine sS (fun w21 sw21 vw21 => ?_)
     replace hL := hL.sto sw21 nL4
     replace hBK := hBK.sto sw21 nB4
     try replace hrv := hrv.sto sw21 nG4
     refine vOrd_nil ?_
     refine vT 12 ?_
     refine sS (fun w22 sw22 vw22 => ?_)
     replace hL := hL.sto sw22 nL5
     replace hBK := hBK.sto sw22 nB5
     try replace hrv := hrv.sto sw22 nG5
     refine vOrd_nil ?_
     refine vT 13 ?_
     refine sZ 1 ?_
     refine vT 14 ?_
     refine sZ 1 ?_
     refine vTree_end (by kernel_rfl) ?_
     refine Wp.ret ⟨.inr rfl, fun mW lW => ⟨_, ⟨_, _, _, _, res_cell rfl rfl rfl rfl, res_cell rfl rfl rfl rfl, res_tmp (P := Tryz.prog) rfl rfl, res_tmp (P := Tryz.prog) rfl rfl, rfl⟩, _, rfl, ?_, lW⟩⟩
     exact ⟨_, ⟨rfl, _, _, hN9.first (by omega), ⟨by omega, by omega⟩, hL, hBK⟩, mW 899 _ _ rfl⟩
    ·refine sS (fun w23 sw23 vw23 => ?_)
     replace hL := hL.sto sw23 nL4
     replace hBK := hBK.sto sw23 nB4
     try replace hrv := hrv.sto sw23 nG4
     refine vOrd_nil ?_
     refine vT 8 ?_
     refine x_ldA [.int .i64 D, .int .i64 S, .int .i64 A] rfl rfl rfl rfl rfl rfl hrv.lt (fun j u hj => ?_) ?_
     ·match j, hj with
      | 0, hj => cases hj; exact (cell_var hrv 3).trans (take_atB htake rfl)
      | 1, hj => cases hj; exact (cell_var hrv 4).trans (take_atB htake rfl)
      | 2, hj => cases hj; exact (cell_var hrv 5).trans (take_atB htake rfl)
     refine vOrd_nil ?_
     refine vT 12 ?_
     refine sS (fun w29 sw29 vw29 => ?_)
     replace hL := hL.sto sw29 nL5
     replace hBK := hBK.sto sw29 nB5
     try replace hrv := hrv.sto sw29 nG5
     refine vOrd_nil ?_
     refine vT 13 ?_
     refine sZ 1 ?_
     refine vT 14 ?_
     refine sZ 1 ?_
     refine vTree_end (by kernel_rfl) ?_
     refine Wp.ret ⟨.inr rfl, fun mW lW => ⟨_, ⟨_, _, _, _, res_cell rfl rfl rfl rfl, res_cell rfl rfl rfl rfl, res_tmp (P := Tryz.prog) rfl rfl, res_tmp (P := Tryz.prog) rfl rfl, rfl⟩, _, rfl, ?_, lW⟩⟩
     exact ⟨_, ⟨rfl, _, _, hN9.first (by omega), ⟨by omega, by omega⟩, hL, hBK⟩, mW 899 _ _ rfl⟩
   ·refine x_ldA [.int .i64 D, .int .i64 S, .int .i64 A] rfl rfl rfl rfl rfl rfl hrv.lt (fun j u hj => ?_) ?_
    ·match j, hj with
     | 0, hj => cases hj; exact (cell_var hrv 3).trans (take_atB htake rfl)
     | 1, hj => cases hj; exact (cell_var hrv 4).trans (take_atB htake rfl)
     | 2, hj => cases hj; exact (cell_var hrv 5).trans (take_atB htake rfl)
    refine vOrd_nil ?_
    refine vT 2 ?_
    refine x_ldA [.int .i64 (D - 1), .int .i64 86400, .int .i64 A] rfl rfl rfl rfl rfl rfl hrv.lt (fun j u hj => ?_) ?_
    ·match j, hj with
     | 0, hj => cases hj; exact (cell_var hrv 0).trans (take_atB htake rfl)
     | 1, hj => cases hj; exact (cell_var hrv 1).trans (take_atB htake rfl)
     | 2, hj => cases hj; exact (cell_var hrv 2).trans (take_atB htake rfl)
    refine vOrd_nil ?_
    refine vT 11 ?_
    refine sS (fun w40 sw40 vw40 => ?_)
    replace hL := hL.sto sw40 nL4
    replace hBK := hBK.sto sw40 nB4
    try replace hrv := hrv.sto sw40 nG4
    refine vOrd_nil ?_
    refine vT 12 ?_
    refine sS (fun w41 sw41 vw41 => ?_)
    replace hL := hL.sto sw41 nL5
    replace hBK := hBK.sto sw41 nB5
    try replace hrv := hrv.sto sw41 nG5
    refine vOrd_nil ?_
    refine vT 13 ?_
    refine sZ 1 ?_
    refine vT 14 ?_
    refine sZ 1 ?_
    refine vTree_end (by kernel_rfl) ?_
    refine Wp.ret ⟨.inr rfl, fun mW lW => ⟨_, ⟨_, _, _, _, res_cell rfl rfl rfl rfl, res_cell rfl rfl rfl rfl, res_tmp (P := Tryz.prog) rfl rfl, res_tmp (P := Tryz.prog) rfl rfl, rfl⟩, _, rfl, ?_, lW⟩⟩
    exact ⟨_, ⟨rfl, _, _, hN9.first (by omega), ⟨by omega, by omega⟩, hL, hBK⟩, mW 899 _ _ rfl⟩

theorem unfind_nil {z pick : Int} {u : Value} (hz : IsW z u) {w : World} : Calls Tryz.prog 18 #[.pointer none, u, .int .i64 pick] w fun e w' => ∃ r, e = .returned r ∧ r = .tuple #[.agg #[.int .i64 0, .int .i64 0, .int .i64 0], .int .i64 12] ∧ Below w.heap.size w w' := by
 obtain ⟨uh, ul, rfl, hz⟩ := hz
 refine calls_Wp (args := [_, _, _]) (n := 38) Tryz.func18 rfl rfl (by simp) ?_
 refine Wp.seq ?_
 refine wR [0, 1, 2] ?_
 refine sE (fun bk1 w1 kb1 lw1 => ?_)
 refine sO (fun bk2 w2 kb2 lw2 => ?_)
 refine sZ 1 ?_
 refine qQ 2 ?_
 refine sT (unlabels_nil ⟨_, _, rfl, hz⟩) ?_
 rintro v w3 rfl lw3
 refine sQ 5 ?_
 refine sO (fun bk4 w4 kb4 lw4 => ?_)
 refine sO (fun bk5 w5 kb5 lw5 => ?_)
 refine sS (fun w6 sw6 vw6 => ?_)
 refine sS (fun w7 sw7 vw7 => ?_)
 refine sZ 2 ?_
 refine Wp.seq ?_
 refine Wp.block ?_
 refine qQ 1 ?_
 refine t_neq rfl rfl rfl rfl rfl (by omega) ?_
 refine sZ 1 ?_
 refine Wp.condT rfl rfl ?_
 refine Wp.seq ?_
 refine wR [0, 1, 2, 3] ?_
 refine sB ?_
 refine sM ?_
 refine sS (fun w8 sw8 vw8 => ?_)
 refine sZ 1 ?_
 refine Wp.ret ⟨.inr rfl, fun lW => ⟨_, ⟨_, _, res_cell rfl rfl rfl rfl, res_tmp (P := Tryz.prog) rfl rfl, rfl⟩, _, rfl, ?_, lW⟩⟩
 clear lW
 rfl
theorem unfind_far {w : World} {h b c : Nat} {R : Option Nat} {hs : List Nat} {t : Tb} {k : Int} (hb : canBe t = true) (H : Ck w h b c R hs t k) (hk : 0 ≤ k ∧ k ≤ 700000) {z : Int} {u : Value} (hz : IsW z u) (hB : inB (dayZ (ulZ z)) = false) (pick : Int) : Calls Tryz.prog 18 #[.pointer (some ⟨h, 0, none⟩), u, .int .i64 pick] w fun e w' => ∃ v, e = .returned v ∧ (∃ cs', (v = .tuple #[.agg #[.int .i64 0, .int .i64 0, .int .i64 0], .int .i64 2] ∧ ∃ R' k', Nx w R R' ∧ (k ≤ k' ∧ k' ≤ k + 60) ∧ Ck w' h b c R' hs t k') ∧ Var w' b cs') ∧ w.grownBy w' (some b) := by
 obtain ⟨uh, ul, rfl, hz⟩ := hz
 obtain ⟨hL, hBK⟩ := H
 obtain ⟨cs0, hv⟩ := hL.var
 refine calls_WpC (args := [_, _, _]) (n := 38) hv Tryz.func18 rfl rfl (by simp) ?_
 refine Wp.seq ?_
 refine wR [0, 1, 2] ?_
 refine sE (fun bk1 w1 kb1 lw1 => ?_)
 have nL4 := hL.ne kb1
 have nB4 := hBK.ne kb1
 replace hL := hL.later lw1
 replace hBK := hBK.later lw1
 have hs4 := lw1.size
 refine sO (fun bk2 w2 kb2 lw2 => ?_)
 have nL6 := hL.ne kb2
 have nB6 := hBK.ne kb2
 replace hL := hL.later lw2
 replace hBK := hBK.later lw2
 have hs6 := lw2.size
 refine sZ 1 ?_
 refine Wp.seq ?_
 refine Wp.var (h := 4) rfl (fun v4 => ?_)
 have q4 := v4.lt
 refine Wp.var (h := 6) rfl (fun v6 => ?_)
 have q6 := v6.lt
 refine wQ 2 ?_
 refine s_callH 899 rfl rfl rfl (by kernel_rfl) rfl rfl (fun vr => (unlabels_far hb ⟨hL, hBK⟩ ⟨by omega, by omega⟩ ⟨_, _, rfl, hz⟩ hB)) ?_
 rintro v cs3 w3 ⟨rfl, R9, k9, hN9, hk9, hLq, hBq⟩ gw3 vw3
 replace hBK := hBK.grown gw3
 have mL4 := hN9.ne nL4.2.2 q4
 replace nL4 := And.intro nL4.1 (And.intro nL4.2.1 mL4)
 have mL6 := hN9.ne nL6.2.2 q6
 replace nL6 := And.intro nL6.1 (And.intro nL6.2.1 mL6)
 clear hL hBK
 have hL := hLq
 have hBK := hBq
 clear hLq hBq
 refine sQ 5 ?_
 refine sO (fun bk4 w4 kb4 lw4 => ?_)
 have nL8 := hL.ne kb4
 have nB8 := hBK.ne kb4
 replace hL := hL.later lw4
 replace hBK := hBK.later lw4
 have hs8 := lw4.size
 refine sO (fun bk5 w5 kb5 lw5 => ?_)
 have nL9 := hL.ne kb5
 have nB9 := hBK.ne kb5
 replace hL := hL.later lw5
 replace hBK := hBK.later lw5
 have hs9 := lw5.size
 refine sS (fun w6 sw6 vw6 => ?_)
 replace hL := hL.sto sw6 nL8
 replace hBK := hBK.sto sw6 nB8
 refine sS (fun w7 sw7 vw7 => ?_)
 replace hL := hL.sto sw7 nL9
 replace hBK := hBK.sto sw7 nB9
 refine sZ 2 ?_
 refine Wp.seq ?_
 refine Wp.block ?_
 refine qQ 1 ?_
 refine t_neq rfl rfl rfl rfl rfl (by omega) ?_
 refine sZ 1 ?_
 refine Wp.condT rfl rfl ?_
 refine Wp.seq ?_
 refine wR [0, 1, 2, 3] ?_
 refine sB ?_
 refine sM ?_
 refine sS (fun w8 sw8 vw8 => ?_)
 replace hL := hL.sto sw8 nL6
 replace hBK := hBK.sto sw8 nB6
 refine sZ 1 ?_
 refine Wp.ret ⟨.inr rfl, fun mW lW => ⟨_, ⟨_, _, res_cell rfl rfl rfl rfl, res_tmp (P := Tryz.prog) rfl rfl, rfl⟩, _, rfl, ?_, lW⟩⟩
 exact ⟨_, ⟨rfl, _, _, hN9.first (by omega), ⟨by omega, by omega⟩, hL, hBK⟩, mW 899 _ _ rfl⟩
set_option maxHeartbeats 1000000 in
theorem unfind_any {w : World} {h b c : Nat} {R : Option Nat} {hs : List Nat} {t : Tb} {k : Int} (hb : canBe t = true) (H : Ck w h b c R hs t k) (hk : 0 ≤ k ∧ k ≤ 700000) {z : Int} {u : Value} (hz : IsW z u) (hB : inB (dayZ (ulZ z)) = true) {J K J' K' : Nat} (hJ : CutP (pSD (dayZ (ulZ z))) pubS J) (hK : Cut (pDay (dayZ (ulZ z))) t.es K) (hJ' : CutP (pSD (dayZ (ulZ z) - 1)) pubS J') (hK' : Cut (pDay (dayZ (ulZ z) - 1)) t.es K') {p q : Bool} (hp : ulP t J' K' z = p) (hq : ulQ t J K z = q) (pick : Int) : Calls Tryz.prog 18 #[.pointer (some ⟨h, 0, none⟩), u, .int .i64 pick] w fun e w' => ∃ v, e = .returned v ∧ (∃ cs', (v = ufV p q pick (dayZ (ulZ z)) (secZ (ulZ z)) (attZ (ulZ z)) (ckE t true J K (dayZ (ulZ z)) (secZ (ulZ z)) (attZ (ulZ z))) ∧ ∃ R' k', Nx w R R' ∧ (k ≤ k' ∧ k' ≤ k + 60) ∧ Ck w' h b c R' hs t k') ∧ Var w' b cs') ∧ w.grownBy w' (some b) := by
 obtain ⟨uh, ul, rfl, hz⟩ := hz
 obtain ⟨hL, hBK⟩ := H
 obtain ⟨cs0, hv⟩ := hL.var
 obtain ⟨D, hD⟩ : ∃ D, dayZ (ulZ z) = D := ⟨_, rfl⟩
 obtain ⟨S, hS⟩ : ∃ S, secZ (ulZ z) = S := ⟨_, rfl⟩
 obtain ⟨A, hA⟩ : ∃ A, attZ (ulZ z) = A := ⟨_, rfl⟩
 obtain ⟨E, hE⟩ : ∃ E, ckE t true J K D S A = E := ⟨_, rfl⟩
 rw [hD, hS, hA, hE]
 cases p with
 | false =>
  cases q with
  | false =>
   have hne : E ≠ 0 := fun e => by have := ulQ_iff.2 (show ckE t true J K (dayZ (ulZ z)) (secZ (ulZ z)) (attZ (ulZ z)) = 0 by rw [hD, hS, hA, hE]; exact e); rw [hq] at this; cases this
   refine calls_WpC (args := [_, _, _]) (n := 38) hv Tryz.func18 rfl rfl (by simp) ?_
   refine Wp.seq ?_
   refine wR [0, 1, 2] ?_
   refine sE (fun bk1 w1 kb1 lw1 => ?_)
   have nL4 := hL.ne kb1
   have nB4 := hBK.ne kb1
   replace hL := hL.later lw1
   replace hBK := hBK.later lw1
   have hs4 := lw1.size
   refine sO (fun bk2 w2 kb2 lw2 => ?_)
   have nL6 := hL.ne kb2
   have nB6 := hBK.ne kb2
   replace hL := hL.later lw2
   replace hBK := hBK.later lw2
   have hs6 := lw2.size
   refine sZ 1 ?_
   refine Wp.seq ?_
   refine Wp.var (h := 4) rfl (fun v4 => ?_)
   have q4 := v4.lt
   refine Wp.var (h := 6) rfl (fun v6 => ?_)
   have q6 := v6.lt
   refine wQ 2 ?_
   refine s_callH 899 rfl rfl rfl (by kernel_rfl) rfl rfl (fun vr => (unlabels_any hb ⟨hL, hBK⟩ ⟨by omega, by omega⟩ ⟨_, _, rfl, hz⟩ hB hJ hK hJ' hK' hp hq)) ?_
   rintro v cs3 w3 ⟨rfl, R9, k9, hN9, hk9, hLq, hBq⟩ gw3 vw3
   replace hBK := hBK.grown gw3
   have mL4 := hN9.ne nL4.2.2 q4
   replace nL4 := And.intro nL4.1 (And.intro nL4.2.1 mL4)
   have mL6 := hN9.ne nL6.2.2 q6
   replace nL6 := And.intro nL6.1 (And.intro nL6.2.1 mL6)
   clear hL hBK
   have hL := hLq
   have hBK := hBq
   clear hLq hBq
   rw [hD, hS, hA, hE, ulV_ff]
   refine sQ 5 ?_
   refine sO (fun bk4 w4 kb4 lw4 => ?_)
   have nL8 := hL.ne kb4
   have nB8 := hBK.ne kb4
   replace hL := hL.later lw4
   replace hBK := hBK.later lw4
   have hs8 := lw4.size
   refine sO (fun bk5 w5 kb5 lw5 => ?_)
   have nL9 := hL.ne kb5
   have nB9 := hBK.ne kb5
   replace hL := hL.later lw5
   replace hBK := hBK.later lw5
   have hs9 := lw5.size
   refine sS (fun w6 sw6 vw6 => ?_)
   replace hL := hL.sto sw6 nL8
   replace hBK := hBK.sto sw6 nB8
   refine sS (fun w7 sw7 vw7 => ?_)
   replace hL := hL.sto sw7 nL9
   replace hBK := hBK.sto sw7 nB9
   refine sZ 2 ?_
   refine Wp.seq ?_
   refine Wp.block ?_
   refine qQ 1 ?_
   refine t_neq rfl rfl rfl rfl rfl (by omega) ?_
   refine sZ 1 ?_
   refine Wp.condT rfl rfl ?_
   refine Wp.seq ?_
   refine wR [0, 1, 2, 3] ?_
   refine sB ?_
   refine sM ?_
   refine sS (fun w8 sw8 vw8 => ?_)
   replace hL := hL.sto sw8 nL6
   replace hBK := hBK.sto sw8 nB6
   refine sZ 1 ?_
   refine Wp.ret ⟨.inr rfl, fun mW lW => ⟨_, ⟨_, _, res_cell rfl rfl rfl rfl, res_tmp (P := Tryz.prog) rfl rfl, rfl⟩, _, rfl, ?_, lW⟩⟩
   exact ⟨_, ⟨rfl, _, _, hN9.first (by omega), ⟨by omega, by omega⟩, hL, hBK⟩, mW 899 _ _ rfl⟩
  | true =>
   refine calls_WpC (args := [_, _, _]) (n := 38) hv Tryz.func18 rfl rfl (by simp) ?_
   refine Wp.seq ?_
   refine wR [0, 1, 2] ?_
   refine sE (fun bk1 w1 kb1 lw1 => ?_)
   have nL4 := hL.ne kb1
   have nB4 := hBK.ne kb1
   replace hL := hL.later lw1
   replace hBK := hBK.later lw1
   have hs4 := lw1.size
   refine sO (fun bk2 w2 kb2 lw2 => ?_)
   have nL6 := hL.ne kb2
   have nB6 := hBK.ne kb2
   replace hL := hL.later lw2
   replace hBK := hBK.later lw2
   have hs6 := lw2.size
   refine sZ 1 ?_
   refine Wp.seq ?_
   refine Wp.var (h := 4) rfl (fun v4 => ?_)
   have q4 := v4.lt
   refine Wp.var (h := 6) rfl (fun v6 => ?_)
   have q6 := v6.lt
   refine wQ 2 ?_
   refine s_callH 899 rfl rfl rfl (by kernel_rfl) rfl rfl (fun vr => (unlabels_any hb ⟨hL, hBK⟩ ⟨by omega, by omega⟩ ⟨_, _, rfl, hz⟩ hB hJ hK hJ' hK' hp hq)) ?_
   rintro v cs3 w3 ⟨rfl, R9, k9, hN9, hk9, hLq, hBq⟩ gw3 vw3
   replace hBK := hBK.grown gw3
   have mL4 := hN9.ne nL4.2.2 q4
   replace nL4 := And.intro nL4.1 (And.intro nL4.2.1 mL4)
   have mL6 := hN9.ne nL6.2.2 q6
   replace nL6 := And.intro nL6.1 (And.intro nL6.2.1 mL6)
   clear hL hBK
   have hL := hLq
   have hBK := hBq
   clear hLq hBq
   rw [hD, hS, hA, hE, ulV_ft]
   refine sQ 5 ?_
   refine sO (fun bk4 w4 kb4 lw4 => ?_)
   have nL8 := hL.ne kb4
   have nB8 := hBK.ne kb4
   replace hL := hL.later lw4
   replace hBK := hBK.later lw4
   have hs8 := lw4.size
   refine sO (fun bk5 w5 kb5 lw5 => ?_)
   have nL9 := hL.ne kb5
   have nB9 := hBK.ne kb5
   replace hL := hL.later lw5
   replace hBK := hBK.later lw5
   have hs9 := lw5.size
   refine sS (fun w6 sw6 vw6 => ?_)
   replace hL := hL.sto sw6 nL8
   replace hBK := hBK.sto sw6 nB8
   refine sS (fun w7 sw7 vw7 => ?_)
   replace hL := hL.sto sw7 nL9
   replace hBK := hBK.sto sw7 nB9
   refine sZ 2 ?_
   refine Wp.seq ?_
   refine Wp.block ?_
   refine qQ 1 ?_
   refine f_neq rfl rfl rfl rfl rfl (by omega) ?_
   refine sZ 1 ?_
   refine Wp.condF rfl rfl ?_
   refine qQ 1 ?_
   refine t_eql rfl rfl rfl rfl rfl (by omega) ?_
   refine sZ 5 ?_
   refine Wp.condT rfl rfl ?_
   refine qQ 1 ?_
   refine sS (fun w8 sw8 vw8 => ?_)
   replace hL := hL.sto sw8 nL6
   replace hBK := hBK.sto sw8 nB6
   refine sZ 1 ?_
   refine Wp.ret ⟨.inr rfl, fun mW lW => ⟨_, ⟨_, _, res_cell rfl rfl rfl rfl, res_tmp (P := Tryz.prog) rfl rfl, rfl⟩, _, rfl, ?_, lW⟩⟩
   exact ⟨_, ⟨rfl, _, _, hN9.first (by omega), ⟨by omega, by omega⟩, hL, hBK⟩, mW 899 _ _ rfl⟩
 | true =>
  cases q with
  | false =>
   refine calls_WpC (args := [_, _, _]) (n := 38) hv Tryz.func18 rfl rfl (by simp) ?_
   refine Wp.seq ?_
   refine wR [0, 1, 2] ?_
   refine sE (fun bk1 w1 kb1 lw1 => ?_)
   have nL4 := hL.ne kb1
   have nB4 := hBK.ne kb1
   replace hL := hL.later lw1
   replace hBK := hBK.later lw1
   have hs4 := lw1.size
   refine sO (fun bk2 w2 kb2 lw2 => ?_)
   have nL6 := hL.ne kb2
   have nB6 := hBK.ne kb2
   replace hL := hL.later lw2
   replace hBK := hBK.later lw2
   have hs6 := lw2.size
   refine sZ 1 ?_
   refine Wp.seq ?_
   refine Wp.var (h := 4) rfl (fun v4 => ?_)
   have q4 := v4.lt
   refine Wp.var (h := 6) rfl (fun v6 => ?_)
   have q6 := v6.lt
   refine wQ 2 ?_
   refine s_callH 899 rfl rfl rfl (by kernel_rfl) rfl rfl (fun vr => (unlabels_any hb ⟨hL, hBK⟩ ⟨by omega, by omega⟩ ⟨_, _, rfl, hz⟩ hB hJ hK hJ' hK' hp hq)) ?_
   rintro v cs3 w3 ⟨rfl, R9, k9, hN9, hk9, hLq, hBq⟩ gw3 vw3
   replace hBK := hBK.grown gw3
   have mL4 := hN9.ne nL4.2.2 q4
   replace nL4 := And.intro nL4.1 (And.intro nL4.2.1 mL4)
   have mL6 := hN9.ne nL6.2.2 q6
   replace nL6 := And.intro nL6.1 (And.intro nL6.2.1 mL6)
   clear hL hBK
   have hL := hLq
   have hBK := hBq
   clear hLq hBq
   rw [hD, hS, hA, hE, ulV_tf]
   refine sQ 5 ?_
   refine sO (fun bk4 w4 kb4 lw4 => ?_)
   have nL8 := hL.ne kb4
   have nB8 := hBK.ne kb4
   replace hL := hL.later lw4
   replace hBK := hBK.later lw4
   have hs8 := lw4.size
   refine sO (fun bk5 w5 kb5 lw5 => ?_)
   have nL9 := hL.ne kb5
   have nB9 := hBK.ne kb5
   replace hL := hL.later lw5
   replace hBK := hBK.later lw5
   have hs9 := lw5.size
   refine sS (fun w6 sw6 vw6 => ?_)
   replace hL := hL.sto sw6 nL8
   replace hBK := hBK.sto sw6 nB8
   refine sS (fun w7 sw7 vw7 => ?_)
   replace hL := hL.sto sw7 nL9
   replace hBK := hBK.sto sw7 nB9
   refine sZ 2 ?_
   refine Wp.seq ?_
   refine Wp.block ?_
   refine qQ 1 ?_
   refine f_neq rfl rfl rfl rfl rfl (by omega) ?_
   refine sZ 1 ?_
   refine Wp.condF rfl rfl ?_
   refine qQ 1 ?_
   refine t_eql rfl rfl rfl rfl rfl (by omega) ?_
   refine sZ 5 ?_
   refine Wp.condT rfl rfl ?_
   refine qQ 1 ?_
   refine sS (fun w8 sw8 vw8 => ?_)
   replace hL := hL.sto sw8 nL6
   replace hBK := hBK.sto sw8 nB6
   refine sZ 1 ?_
   refine Wp.ret ⟨.inr rfl, fun mW lW => ⟨_, ⟨_, _, res_cell rfl rfl rfl rfl, res_tmp (P := Tryz.prog) rfl rfl, rfl⟩, _, rfl, ?_, lW⟩⟩
   exact ⟨_, ⟨rfl, _, _, hN9.first (by omega), ⟨by omega, by omega⟩, hL, hBK⟩, mW 899 _ _ rfl⟩
  | true =>
   refine calls_WpC (args := [_, _, _]) (n := 38) hv Tryz.func18 rfl rfl (by simp) ?_
   refine Wp.seq ?_
   refine wR [0, 1, 2] ?_
   refine sE (fun bk1 w1 kb1 lw1 => ?_)
   have nL4 := hL.ne kb1
   have nB4 := hBK.ne kb1
   replace hL := hL.later lw1
   replace hBK := hBK.later lw1
   have hs4 := lw1.size
   refine sO (fun bk2 w2 kb2 lw2 => ?_)
   have nL6 := hL.ne kb2
   have nB6 := hBK.ne kb2
   replace hL := hL.later lw2
   replace hBK := hBK.later lw2
   have hs6 := lw2.size
   refine sZ 1 ?_
   refine Wp.seq ?_
   refine Wp.var (h := 4) rfl (fun v4 => ?_)
   have q4 := v4.lt
   refine Wp.var (h := 6) rfl (fun v6 => ?_)
   have q6 := v6.lt
   refine wQ 2 ?_
   refine s_callH 899 rfl rfl rfl (by kernel_rfl) rfl rfl (fun vr => (unlabels_any hb ⟨hL, hBK⟩ ⟨by omega, by omega⟩ ⟨_, _, rfl, hz⟩ hB hJ hK hJ' hK' hp hq)) ?_
   rintro v cs3 w3 ⟨rfl, R9, k9, hN9, hk9, hLq, hBq⟩ gw3 vw3
   replace hBK := hBK.grown gw3
   have mL4 := hN9.ne nL4.2.2 q4
   replace nL4 := And.intro nL4.1 (And.intro nL4.2.1 mL4)
   have mL6 := hN9.ne nL6.2.2 q6
   replace nL6 := And.intro nL6.1 (And.intro nL6.2.1 mL6)
   clear hL hBK
   have hL := hLq
   have hBK := hBq
   clear hLq hBq
   rw [hD, hS, hA, hE, ulV_tt]
   refine sQ 5 ?_
   refine sO (fun bk4 w4 kb4 lw4 => ?_)
   have nL8 := hL.ne kb4
   have nB8 := hBK.ne kb4
   replace hL := hL.later lw4
   replace hBK := hBK.later lw4
   have hs8 := lw4.size
   refine sO (fun bk5 w5 kb5 lw5 => ?_)
   have nL9 := hL.ne kb5
   have nB9 := hBK.ne kb5
   replace hL := hL.later lw5
   replace hBK := hBK.later lw5
   have hs9 := lw5.size
   refine sS (fun w6 sw6 vw6 => ?_)
   replace hL := hL.sto sw6 nL8
   replace hBK := hBK.sto sw6 nB8
   refine sS (fun w7 sw7 vw7 => ?_)
   replace hL := hL.sto sw7 nL9
   replace hBK := hBK.sto sw7 nB9
   refine sZ 2 ?_
   refine Wp.seq ?_
   refine Wp.block ?_
   refine qQ 1 ?_
   refine f_neq rfl rfl rfl rfl rfl (by omega) ?_
   refine sZ 1 ?_
   refine Wp.condF rfl rfl ?_
   refine qQ 1 ?_
   refine f_eql rfl rfl rfl rfl rfl (by decide) ?_
   refine sQ 2 ?_
   refine p_eql rfl rfl rfl rfl rfl (fun h30 => ?_) (fun h30 => ?_)
   ·refine sZ 2 ?_
    refine Wp.condT rfl rfl ?_
    refine qQ 1 ?_
    refine sS (fun w8 sw8 vw8 => ?_)
    replace hL := hL.sto sw8 nL6
    replace hBK := hBK.sto sw8 nB6
    refine sZ 1 ?_
    refine Wp.ret ⟨.inr rfl, fun mW lW => ⟨_, ⟨_, _, res_cell rfl rfl rfl rfl, res_tmp (P := Tryz.prog) rfl rfl, rfl⟩, _, rfl, ?_, lW⟩⟩
    rw [ufV_tt, if_neg (by omega), if_pos (by omega)]
    exact ⟨_, ⟨rfl, _, _, hN9.first (by omega), ⟨by omega, by omega⟩, hL, hBK⟩, mW 899 _ _ rfl⟩
   ·refine sZ 2 ?_
    refine Wp.condF rfl rfl ?_
    refine qQ 1 ?_
    refine p_eql rfl rfl rfl rfl rfl (fun h35 => ?_) (fun h35 => ?_)
    ·refine sZ 1 ?_
     refine Wp.condT rfl rfl ?_
     refine qQ 1 ?_
     refine sS (fun w9 sw9 vw9 => ?_)
     replace hL := hL.sto sw9 nL6
     replace hBK := hBK.sto sw9 nB6
     refine sZ 1 ?_
     refine Wp.ret ⟨.inr rfl, fun mW lW => ⟨_, ⟨_, _, res_cell rfl rfl rfl rfl, res_tmp (P := Tryz.prog) rfl rfl, rfl⟩, _, rfl, ?_, lW⟩⟩
     rw [ufV_tt, if_pos (by omega)]
     exact ⟨_, ⟨rfl, _, _, hN9.first (by omega), ⟨by omega, by omega⟩, hL, hBK⟩, mW 899 _ _ rfl⟩
    ·refine sZ 1 ?_
     refine Wp.condF rfl rfl ?_
     refine Wp.skip ?_
     refine Wp.seq ?_
     refine wR [0, 1, 2] ?_
     refine sB ?_
     refine sS (fun w10 sw10 vw10 => ?_)
     replace hL := hL.sto sw10 nL6
     replace hBK := hBK.sto sw10 nB6
     refine sZ 1 ?_
     refine Wp.ret ⟨.inr rfl, fun mW lW => ⟨_, ⟨_, _, res_cell rfl rfl rfl rfl, res_tmp (P := Tryz.prog) rfl rfl, rfl⟩, _, rfl, ?_, lW⟩⟩
     rw [ufV_tt, if_neg (by omega), if_neg (by omega)]
     exact ⟨_, ⟨rfl, _, _, hN9.first (by omega), ⟨by omega, by omega⟩, hL, hBK⟩, mW 899 _ _ rfl⟩

end Go.Proofs.YthihioakjpmnbaaGreat
