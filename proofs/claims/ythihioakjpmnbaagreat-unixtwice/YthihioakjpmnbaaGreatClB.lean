/-
 The contracts of clock (P15.1 to P15.3). Of tables that may be; what is asked less than 800000 times.
-/
import Derived.Test.YthihioakjpmnbaaGreatUnA
import Derived.Test.YthihioakjpmnbaaGreatUtB
import Derived.Test.YthihioakjpmnbaaGreatVcC
import Derived.Test.YthihioakjpmnbaaGreatUtR
namespace Go.Proofs.YthihioakjpmnbaaGreat
open Go.RowKit
set_option maxRecDepth 100000

theorem Rb.grown {w w' : World} {b q : Nat} {bs : List Nat} {l : List Sg} {day off : Int} (h : Rb w b bs l day off) (s : w.grownBy w' (some q)) (hq : ∀ x ∈ b :: bs, x ≠ q) : Rb w' b bs l day off := by
 obtain ⟨c, cs, rfl, h2, h3, h4, h5⟩ := h
 exact ⟨c, cs, rfl, h2, h3.grown s (by simpa using hq b (by simp)), h4.grown s (by simpa using hq c (by simp)), h5⟩
/-- What is laid beside the Leaps. -/
def CkB (w : World) (h b : Nat) (hs : List Nat) (t : Tb) : Prop := (∀ x ∈ h :: hs, x ≠ b) ∧ ∃ rp, Var w h [.pointer (some ⟨b, 0, none⟩), .pointer rp, .int .i64 t.e] ∧
 ((ckOld t.es = false ∧ rp = none ∧ hs = []) ∨ (ckOld t.es = true ∧ ∃ r rs, rp = some ⟨r, 0, none⟩ ∧ hs = r :: rs ∧ Rb w r rs pubS 41317 10))
theorem CkB.later {w w' : World} {h b : Nat} {hs : List Nat} {t : Tb} (H : CkB w h b hs t) (g : Later w w') : CkB w' h b hs t := by
 obtain ⟨h1, rp, h2, h3⟩ := H
 refine ⟨h1, rp, h2.later g, ?_⟩
 rcases h3 with q | ⟨q1, r, rs, q3, q4, q5⟩
 ·exact .inl q
 ·exact .inr ⟨q1, r, rs, q3, q4, q5.later g⟩
theorem CkB.ne {w : World} {h b q : Nat} {hs : List Nat} {t : Tb} (H : CkB w h b hs t) (hq : w.heap.size ≤ q) : ∀ x ∈ h :: hs, x ≠ q := by
 obtain ⟨h1, rp, h2, h3⟩ := H
 have hl := h2.lt
 intro x hx
 rcases List.mem_cons.1 hx with rfl | hx
 ·omega
 ·rcases h3 with ⟨_, _, q⟩ | ⟨_, r, rs, _, q4, q5⟩
  ·subst q; cases hx
  ·subst q4; exact q5.ne hq x hx
theorem CkB.sto {w w' : World} {h b q : Nat} {hs : List Nat} {t : Tb} (H : CkB w h b hs t) (s : Stored q w w') (hq : ∀ x ∈ h :: hs, x ≠ q) : CkB w' h b hs t := by
 obtain ⟨h1, rp, h2, h3⟩ := H
 refine ⟨h1, rp, h2.sto s (hq h (by simp)), ?_⟩
 rcases h3 with g | ⟨q1, r, rs, q3, q4, q5⟩
 ·exact .inl g
 ·subst q4; exact .inr ⟨q1, r, rs, q3, rfl, q5.sto s (fun x hx => hq x (List.mem_cons_of_mem _ hx))⟩
theorem CkB.grown {w w' : World} {h b : Nat} {hs : List Nat} {t : Tb} (H : CkB w h b hs t) (s : w.grownBy w' (some b)) : CkB w' h b hs t := by
 obtain ⟨h1, rp, h2, h3⟩ := H
 refine ⟨h1, rp, h2.grown s (by simpa using h1 h (by simp)), ?_⟩
 rcases h3 with g | ⟨q1, r, rs, q3, q4, q5⟩
 ·exact .inl g
 ·subst q4; exact .inr ⟨q1, r, rs, q3, rfl, q5.grown s (fun x hx => h1 x (List.mem_cons_of_mem _ hx))⟩
def Ck (w : World) (h b c : Nat) (R : Option Nat) (hs : List Nat) (t : Tb) (k : Int) : Prop := Lp w b c R t k ∧ CkB w h b hs t
/-- None of its blocks is q. -/
def Ckn (h b c : Nat) (R : Option Nat) (hs : List Nat) (q : Nat) : Prop := (b ≠ q ∧ c ≠ q ∧ R ≠ some q) ∧ ∀ x ∈ h :: hs, x ≠ q
theorem Ck.later {w w' : World} {h b c : Nat} {R : Option Nat} {hs : List Nat} {t : Tb} {k : Int} (H : Ck w h b c R hs t k) (g : Later w w') : Ck w' h b c R hs t k := ⟨H.1.later g, H.2.later g⟩
theorem Ck.ne {w : World} {h b c : Nat} {R : Option Nat} {hs : List Nat} {t : Tb} {k : Int} {q : Nat} (H : Ck w h b c R hs t k) (hq : w.heap.size ≤ q) : Ckn h b c R hs q := ⟨H.1.ne hq, H.2.ne hq⟩
theorem Ck.sto {w w' : World} {h b c : Nat} {R : Option Nat} {hs : List Nat} {t : Tb} {k : Int} {q : Nat} (H : Ck w h b c R hs t k) (s : Stored q w w') (hq : Ckn h b c R hs q) : Ck w' h b c R hs t k := ⟨H.1.sto s hq.1, H.2.sto s hq.2⟩
theorem Ck.var {w : World} {h b c : Nat} {R : Option Nat} {hs : List Nat} {t : Tb} {k : Int} (H : Ck w h b c R hs t k) : ∃ cs, Var w b cs := H.1.var
/-- A label that there is lies near. -/
theorem ck_near {t : Tb} {lax : Bool} {J K : Nat} {d s a : Int} (hJ : CutP (pSD d) pubS J) (h : ckE t lax J K d s a = 0) : -1099511627776 ≤ d ∧ d ≤ 1099511627776 ∧ 0 ≤ s ∧ s ≤ 86400 := by
 have hw := (ckE_zero h).1
 cases hr : ckR t.es d with
 | true =>
  rw [(ckW_r (J := J) (K := K) (s := s) (a := a) hr).1] at hw
  have hU := isU_iff.1 (rE_zero hw).1
  have hd := (rE_zero hw).2.2.1
  obtain ⟨x, hx, -, hlow, -⟩ := rE_facts pub_may15 hJ hw
  have hs := sgIn_iff.1 (may_at pub_may15 hx).1
  omega
 | false =>
  rw [(ckW_u (J := J) (K := K) (s := s) (a := a) hr).1] at hw
  obtain ⟨hU, hB, _, _⟩ := why_zero hw
  have hU' := isU_iff.1 hU
  have hB' := inB_iff.1 hB
  omega
theorem pub_at15 {w : World} {c : Nat} (h : Var w c (segC pubS)) : SegAt w (.slice (some ⟨c, 0, none⟩) 13 13) pubS := seg_row (n := 13) h rfl rfl (Nat.le_refl _) (fun _ _ hx => pub_64 hx)
theorem ckG_no {es : List Ent} {J K : Nat} {d s a : Int} (h : ckW es J K d s a ≠ 0) : ckG es J K d s a = 0 := by
 cases hr : ckR es d with
 | true => rw [(ckW_r hr).1] at h; rw [(ckW_r hr).2]; exact if_neg h
 | false => rw [(ckW_u hr).1] at h; rw [(ckW_u hr).2]; exact if_neg h
theorem ckE_lax {t : Tb} {J K : Nat} {d s a : Int} : ckE t true J K d s a = ckW t.es J K d s a := by
 unfold ckE
 split
 ·rename_i h; rw [h]; rfl
 ·rfl

theorem cleaps_any {w : World} {h b c : Nat} {R : Option Nat} {hs : List Nat} {t : Tb} {k : Int} (H : Ck w h b c R hs t k) : Calls Tryz.prog 77 #[.pointer (some ⟨h, 0, none⟩)] w fun e w' => ∃ r, e = .returned r ∧ r = .pointer (some ⟨b, 0, none⟩) ∧ Below w.heap.size w w' := by
 obtain ⟨hL, hB⟩ := H
 obtain ⟨hnb, rp, hvh, hor⟩ := id hB
 refine calls_Wp (args := [_]) (n := 9) Tryz.func77 rfl rfl (by simp) ?_
 refine qZ ?_
 refine Wp.seq ?_
 refine qQ 1 ?_
 refine s_nilEq (some ⟨h, 0, none⟩) rfl rfl rfl rfl rfl ?_
 refine vOrd_nil ?_
 refine Wp.condF rfl rfl ?_
 refine Wp.skip ?_
 refine Wp.seq ?_
 refine Wp.old (fun lo => ?_)
 refine wQ 1 ?_
 refine s_nilV rfl rfl rfl rfl ?_
 refine s_fieldV 0 rfl rfl rfl rfl 0 rfl rfl ?_
 refine s_ldU rfl rfl rfl rfl (hvh.later lo) rfl ?_
 refine sZ 1 ?_
 refine Wp.ret ⟨.inr rfl, fun lW => ⟨_, res_tmp (P := Tryz.prog) rfl rfl, _, rfl, ?_, lW⟩⟩
 clear lW
 rfl
theorem cold_any {w : World} {h b c : Nat} {R : Option Nat} {hs : List Nat} {t : Tb} {k : Int} (_hb : canBe t = true) (H : Ck w h b c R hs t k) : Calls Tryz.prog 74 #[.pointer (some ⟨h, 0, none⟩)] w fun e w' => ∃ r, e = .returned r ∧ r = .bool (ckOld t.es) ∧ Below w.heap.size w w' := by
 obtain ⟨hL, hB⟩ := H
 obtain ⟨hnb, rp, hvh, hor⟩ := id hB
 rcases hor with ⟨ho, rfl, rfl⟩ | ⟨ho, r, rs, rfl, rfl, hR⟩
 ·refine calls_Wp (args := [_]) (n := 12) Tryz.func74 rfl rfl (by simp) ?_
  refine qZ ?_
  refine Wp.seq ?_
  refine Wp.old (fun lo => ?_)
  refine wQ 1 ?_
  refine s_nilNe (some ⟨h, 0, none⟩) rfl rfl rfl rfl rfl ?_
  refine sQ 2 ?_
  refine s_nilV rfl rfl rfl rfl ?_
  refine s_fieldV 1 rfl rfl rfl rfl 1 rfl rfl ?_
  refine s_ldU rfl rfl rfl rfl (hvh.later lo) rfl ?_
  refine s_nilNe (none) rfl rfl rfl rfl rfl ?_
  refine sZ 2 ?_
  refine Wp.ret ⟨.inr rfl, fun lW => ⟨_, res_tmp (P := Tryz.prog) rfl rfl, _, rfl, ?_, lW⟩⟩
  clear lW
  exact ho.symm ▸ rfl
 ·refine calls_Wp (args := [_]) (n := 12) Tryz.func74 rfl rfl (by simp) ?_
  refine qZ ?_
  refine Wp.seq ?_
  refine Wp.old (fun lo => ?_)
  refine wQ 1 ?_
  refine s_nilNe (some ⟨h, 0, none⟩) rfl rfl rfl rfl rfl ?_
  refine sQ 2 ?_
  refine s_nilV rfl rfl rfl rfl ?_
  refine s_fieldV 1 rfl rfl rfl rfl 1 rfl rfl ?_
  refine s_ldU rfl rfl rfl rfl (hvh.later lo) rfl ?_
  refine s_nilNe (some ⟨r, 0, none⟩) rfl rfl rfl rfl rfl ?_
  refine sZ 2 ?_
  refine Wp.ret ⟨.inr rfl, fun lW => ⟨_, res_tmp (P := Tryz.prog) rfl rfl, _, rfl, ?_, lW⟩⟩
  clear lW
  exact ho.symm ▸ rfl
theorem cexp_any {w : World} {h b c : Nat} {R : Option Nat} {hs : List Nat} {t : Tb} {k : Int} (H : Ck w h b c R hs t k) {d s a : Int} (hn : -1099511627776 ≤ d ∧ d ≤ 1099511627776 ∧ 0 ≤ s ∧ s ≤ 86400) : Calls Tryz.prog 65 #[.pointer (some ⟨h, 0, none⟩), .agg #[.int .i64 d, .int .i64 s, .int .i64 a]] w fun e w' => ∃ r, e = .returned r ∧ r = .bool (ckOver t.e d s) ∧ Below w.heap.size w w' := by
 obtain ⟨hL, hB⟩ := H
 obtain ⟨hnb, rp, hvh, hor⟩ := id hB
 obtain ⟨n1, n2, n3, n4⟩ := hn
 refine calls_Wp (args := [_, _]) (n := 17) Tryz.func65 rfl rfl (by simp) ?_
 refine Wp.seq ?_
 refine wR [0, 1] ?_
 refine sE (fun bk1 w1 kb1 lw1 => ?_)
 refine sZ 1 ?_
 refine Wp.seq ?_
 refine Wp.old (fun lo => ?_)
 refine wD [0, 1, 2, 3, 4, 5, 6, 7, 8, 9, 10, 11, 12] [1968, 1969, 1971, 1975, 1935, 1951, 1983, 0, 0, 0, 0, 0, 0] (fun _ _ _ => True) (fun wd ld => ?_)
 replace hvh := (hvh.later lo).later ld
 refine sQ 2 ?_
 refine aM (-9223372036854775808) 9223372036854775807 ?_
 refine a_mul (-9223372036854775808) 9223372036854775807 (by decide) rfl rfl rfl rfl rfl (by omega) (by omega) ?_
 refine sQ 2 ?_
 refine aP (-9223372036854775808) 9223372036854775807 ?_
 refine sM ?_
 refine s_nilV rfl rfl rfl rfl ?_
 refine s_fieldV 2 rfl rfl rfl rfl 2 rfl rfl ?_
 refine s_ldU rfl rfl rfl rfl (hvh) rfl ?_
 refine p_geq rfl rfl rfl rfl rfl (fun h16 => ?_) (fun h16 => ?_)
 ·refine sZ 1 ?_
  refine Wp.ret ⟨.inr rfl, fun lW => ⟨_, res_tmp (P := Tryz.prog) rfl rfl, _, rfl, ?_, lW⟩⟩
  clear lW
  unfold ckOver
  rw [decide_eq_true (by omega)]
 ·refine sZ 1 ?_
  refine Wp.ret ⟨.inr rfl, fun lW => ⟨_, res_tmp (P := Tryz.prog) rfl rfl, _, rfl, ?_, lW⟩⟩
  clear lW
  unfold ckOver
  rw [decide_eq_false (by omega)]
set_option maxHeartbeats 1000000 in
theorem ctaiI_any {t : Tb} {h b c : Nat} {R : Option Nat} {hs : List Nat} {k : Int} {w : World} (hb : canBe t = true) (H : Ck w h b c R hs t k) (hk : 0 ≤ k ∧ k ≤ 800000) {d s a : Int} (hd : I64 d) (hs64 : I64 s) (ha : I64 a) {J K : Nat} (hJ : CutP (pSD d) pubS J) (hK : Cut (pDay d) t.es K) : Calls Tryz.prog 45 #[.pointer (some ⟨h, 0, none⟩), .agg #[.int .i64 d, .int .i64 s, .int .i64 a]] w fun e w' => ∃ v, e = .returned v ∧ (∃ cs', ((∃ u, v = .tuple #[u, .int .i64 (ckW t.es J K d s a)] ∧ IsW (ckG t.es J K d s a) u) ∧ ∃ R' k', Nx w R R' ∧ (k ≤ k' ∧ k' ≤ k + 9) ∧ Ck w' h b c R' hs t k') ∧ Var w' b cs') ∧ w.grownBy w' (some b) := by
 obtain ⟨hL, hB⟩ := H
 obtain ⟨cs0, hv⟩ := hL.var
 refine calls_WpC (args := [_, _]) (n := 27) hv Tryz.func45 rfl rfl (by simp) ?_
 refine Wp.seq ?_
 refine wR [0, 1, 2] ?_
 refine sE (fun bk1 w1 kb1 lw1 => ?_)
 have nL3 := hL.ne kb1
 have nB3 := hB.ne kb1
 replace hL := hL.later lw1
 replace hB := hB.later lw1
 have hs3 := lw1.size
 refine sO (fun bk2 w2 kb2 lw2 => ?_)
 have nL4 := hL.ne kb2
 have nB4 := hB.ne kb2
 replace hL := hL.later lw2
 replace hB := hB.later lw2
 have hs4 := lw2.size
 refine sZ 1 ?_
 refine Wp.seq ?_
 refine qQ 1 ?_
 refine sT (cold_any hb ⟨hL, hB⟩) ?_
 rintro v w3 rfl lw3
 have hsllw3 := lw3.size
 try replace hL := hL.later lw3
 try replace hB := hB.later lw3
 try replace hvh := hvh.later lw3
 rcases Bool.eq_false_or_eq_true (ckOld t.es) with h7 | h7
 ·rw [h7]
  refine sQ 3 ?_
  refine p_lss rfl rfl rfl rfl rfl (fun h11 => ?_) (fun h11 => ?_)
  ·refine sZ 1 ?_
   refine Wp.condT rfl rfl ?_
   refine Wp.seq ?_
   have hr : ckR t.es d = true := by unfold ckR; rw [h7, decide_eq_true h11]; rfl
   refine wD [0, 1, 2, 3, 4, 5, 6, 7, 8, 9] [16, 17, 19, 23, 0, 0, 191, 0, 0, 0] (fun | 5 => fun v _ => ∃ u, v = .tuple #[u, .int .i64 (rE pubS 41317 10 J d s a)] ∧ IsW (rT pubS 41317 10 J d s a) u | _ => fun _ _ => True) (fun wd ld => ?_)
   have hslld := ld.size
   try replace hL := hL.later ld
   try replace hB := hB.later ld
   try replace hvh := hvh.later ld
   obtain ⟨hnb, rp, hvh, hor⟩ := id hB
   obtain ⟨r, rs, rfl, rfl, hR⟩ : ∃ r rs, rp = some ⟨r, 0, none⟩ ∧ hs = r :: rs ∧ Rb _ r rs pubS 41317 10 := by
    rcases hor with ⟨ho, -⟩ | ⟨-, r, rs, q1, q2, q3⟩
    ·rw [h7] at ho; cases ho
    ·exact ⟨r, rs, q1, q2, q3⟩
   refine sM ?_
   refine s_nilV rfl rfl rfl rfl ?_
   refine s_fieldV 1 rfl rfl rfl rfl 1 rfl rfl ?_
   refine s_ldU rfl rfl rfl rfl (hvh) rfl ?_
   refine sL ?_
   refine sD (fun wc lc => ptai_any (hR.later lc) pub_may15 hd hs64 ha hJ) ?_
   rintro v w7 u7 ⟨tu, rfl, th, tl, rfl, hth⟩ lw7 mw7
   have hsllw7 := lw7.size
   try replace hL := hL.later lw7
   try replace hB := hB.later lw7
   try replace hvh := hvh.later lw7
   have hslmw7 := mw7.size
   try replace hL := hL.later mw7
   try replace hB := hB.later mw7
   try replace hvh := hvh.later mw7
   rw [← (ckW_r (J := J) (K := K) (s := s) (a := a) hr).2] at hth
   rw [← (ckW_r (J := J) (K := K) (s := s) (a := a) hr).1]
   refine sQ 2 ?_
   refine sS (fun w8 sw8 vw8 => ?_)
   replace hL := hL.sto sw8 nL4
   replace hB := hB.sto sw8 nB4
   refine sZ 1 ?_
   refine Wp.ret ⟨.inr rfl, fun mW lW => ⟨_, ⟨_, _, res_cell rfl rfl rfl rfl, res_tmp (P := Tryz.prog) rfl rfl, rfl⟩, _, rfl, ?_, lW⟩⟩
   exact ⟨_, ⟨⟨_, rfl, th, tl, rfl, hth⟩, _, _, .inl rfl, ⟨by omega, by omega⟩, hL, hB⟩, mW 899 _ _ rfl⟩
  ·refine sZ 1 ?_
   refine Wp.condF rfl rfl ?_
   refine Wp.skip ?_
   refine Wp.seq ?_
   refine Wp.var (h := 4) rfl (fun v4 => ?_)
   have q4 := v4.lt
   have hr : ckR t.es d = false := by unfold ckR; rw [h7, decide_eq_false (by omega)]; rfl
   refine Wp.drawnX (by kernel_rfl) (by kernel_rfl) (by kernel_rfl) [0] 7 #[true, false, false, false, false, false, false, false] rfl (by kernel_rfl) (by kernel_rfl) (fun wd ld => ?_)
   have hslld := ld.size
   try replace hL := hL.later ld
   try replace hB := hB.later ld
   try replace hvh := hvh.later ld
   replace q4 := Nat.lt_of_lt_of_le q4 ld.size
   refine sZ 1 ?_
   refine vTree_two (i := 1) (k := 2) (L1 := #[true, true, false, false, false, false, false, false]) (L2 := #[true, false, true, false, false, false, false, false]) (by kernel_rfl) (by kernel_rfl) (by kernel_rfl) ?_ ?_
   ·refine sT (cleaps_any ⟨hL, hB⟩) ?_
    rintro v w9 rfl lw9
    have hsllw9 := lw9.size
    try replace hL := hL.later lw9
    try replace hB := hB.later lw9
    try replace hvh := hvh.later lw9
    replace q4 := Nat.lt_of_lt_of_le q4 lw9.size
    refine vOrd_nil ?_
    refine vT 2 ?_
    refine sZ 1 ?_
    refine vT 3 ?_
    refine s_callH 899 rfl rfl rfl (by kernel_rfl) rfl rfl (fun vr => (utai_any hb hL ⟨by omega, by omega⟩ hd hs64 ha hK)) ?_
    rintro v cs10 w10 ⟨⟨tu, rfl, th, tl, rfl, hth⟩, R7, k7, hNq, hk7, hLq⟩ gw10 vw10
    replace hB := hB.grown gw10
    have mL4 := hNq.ne nL4.2.2 q4
    replace nL4 := And.intro nL4.1 (And.intro nL4.2.1 mL4)
    clear hL
    have hL := hLq
    clear hLq
    rw [← (ckW_u (J := J) (K := K) (s := s) (a := a) hr).2] at hth
    rw [← (ckW_u (J := J) (K := K) (s := s) (a := a) hr).1]
    refine vOrd_nil ?_
    refine vTree_two (i := 4) (k := 5) (L1 := #[true, true, true, true, true, false, false, false]) (L2 := #[true, true, true, true, false, true, false, false]) (by kernel_rfl) (by kernel_rfl) (by kernel_rfl) ?_ ?_
    ·refine sZ 1 ?_
     refine vT 5 ?_
     refine sZ 1 ?_
     refine vT 6 ?_
     refine sS (fun w11 sw11 vw11 => ?_)
     replace hL := hL.sto sw11 nL4
     replace hB := hB.sto sw11 nB4
     refine vOrd_nil ?_
     refine vT 7 ?_
     refine sZ 1 ?_
     refine vTree_end (by kernel_rfl) ?_
     refine Wp.ret ⟨.inr rfl, fun mW lW => ⟨_, ⟨_, _, res_cell rfl rfl rfl rfl, res_tmp (P := Tryz.prog) rfl rfl, rfl⟩, _, rfl, ?_, lW⟩⟩
     exact ⟨_, ⟨⟨_, rfl, th, tl, rfl, hth⟩, _, _, hNq.first (by omega), ⟨by omega, by omega⟩, hL, hB⟩, mW 899 _ _ rfl⟩
    ·refine sZ 1 ?_
     refine vT 4 ?_
     refine sZ 1 ?_
     refine vT 6 ?_
     refine sS (fun w12 sw12 vw12 => ?_)
     replace hL := hL.sto sw12 nL4
     replace hB := hB.sto sw12 nB4
     refine vOrd_nil ?_
     refine vT 7 ?_
     refine sZ 1 ?_
     refine vTree_end (by kernel_rfl) ?_
     refine Wp.ret ⟨.inr rfl, fun mW lW => ⟨_, ⟨_, _, res_cell rfl rfl rfl rfl, res_tmp (P := Tryz.prog) rfl rfl, rfl⟩, _, rfl, ?_, lW⟩⟩
     exact ⟨_, ⟨⟨_, rfl, th, tl, rfl, hth⟩, _, _, hNq.first (by omega), ⟨by omega, by omega⟩, hL, hB⟩, mW 899 _ _ rfl⟩
   ·refine sZ 1 ?_
    refine vT 1 ?_
    refine sT (cleaps_any ⟨hL, hB⟩) ?_
    rintro v w13 rfl lw13
    have hsllw13 := lw13.size
    try replace hL := hL.later lw13
    try replace hB := hB.later lw13
    try replace hvh := hvh.later lw13
    replace q4 := Nat.lt_of_lt_of_le q4 lw13.size
    refine vOrd_nil ?_
    refine vT 3 ?_
    refine s_callH 899 rfl rfl rfl (by kernel_rfl) rfl rfl (fun vr => (utai_any hb hL ⟨by omega, by omega⟩ hd hs64 ha hK)) ?_
    rintro v cs14 w14 ⟨⟨tu, rfl, th, tl, rfl, hth⟩, R7, k7, hNq, hk7, hLq⟩ gw14 vw14
    replace hB := hB.grown gw14
    have mL4 := hNq.ne nL4.2.2 q4
    replace nL4 := And.intro nL4.1 (And.intro nL4.2.1 mL4)
    clear hL
    have hL := hLq
    clear hLq
    rw [← (ckW_u (J := J) (K := K) (s := s) (a := a) hr).2] at hth
    rw [← (ckW_u (J := J) (K := K) (s := s) (a := a) hr).1]
    refine vOrd_nil ?_
    refine vTree_two (i := 4) (k := 5) (L1 := #[true, true, true, true, true, false, false, false]) (L2 := #[true, true, true, true, false, true, false, false]) (by kernel_rfl) (by kernel_rfl) (by kernel_rfl) ?_ ?_
    ·refine sZ 1 ?_
     refine vT 5 ?_
     refine sZ 1 ?_
     refine vT 6 ?_
     refine sS (fun w15 sw15 vw15 => ?_)
     replace hL := hL.sto sw15 nL4
     replace hB := hB.sto sw15 nB4
     refine vOrd_nil ?_
     refine vT 7 ?_
     refine sZ 1 ?_
     refine vTree_end (by kernel_rfl) ?_
     refine Wp.ret ⟨.inr rfl, fun mW lW => ⟨_, ⟨_, _, res_cell rfl rfl rfl rfl, res_tmp (P := Tryz.prog) rfl rfl, rfl⟩, _, rfl, ?_, lW⟩⟩
     exact ⟨_, ⟨⟨_, rfl, th, tl, rfl, hth⟩, _, _, hNq.first (by omega), ⟨by omega, by omega⟩, hL, hB⟩, mW 899 _ _ rfl⟩
    ·refine sZ 1 ?_
     refine vT 4 ?_
     refine sZ 1 ?_
     refine vT 6 ?_
     refine sS (fun w16 sw16 vw16 => ?_)
     replace hL := hL.sto sw16 nL4
     replace hB := hB.sto sw16 nB4
     refine vOrd_nil ?_
     refine vT 7 ?_
     refine sZ 1 ?_
     refine vTree_end (by kernel_rfl) ?_
     refine Wp.ret ⟨.inr rfl, fun mW lW => ⟨_, ⟨_, _, res_cell rfl rfl rfl rfl, res_tmp (P := Tryz.prog) rfl rfl, rfl⟩, _, rfl, ?_, lW⟩⟩
     exact ⟨_, ⟨⟨_, rfl, th, tl, rfl, hth⟩, _, _, hNq.first (by omega), ⟨by omega, by omega⟩, hL, hB⟩, mW 899 _ _ rfl⟩
 ·rw [h7]
  refine sZ 5 ?_
  refine Wp.condF rfl rfl ?_
  refine Wp.skip ?_
  refine Wp.seq ?_
  refine Wp.var (h := 4) rfl (fun v4 => ?_)
  have q4 := v4.lt
  have hr : ckR t.es d = false := by unfold ckR; rw [h7]; rfl
  refine Wp.drawnX (by kernel_rfl) (by kernel_rfl) (by kernel_rfl) [0] 7 #[true, false, false, false, false, false, false, false] rfl (by kernel_rfl) (by kernel_rfl) (fun wd ld => ?_)
  have hslld := ld.size
  try replace hL := hL.later ld
  try replace hB := hB.later ld
  try replace hvh := hvh.later ld
  replace q4 := Nat.lt_of_lt_of_le q4 ld.size
  refine sZ 1 ?_
  refine vTree_two (i := 1) (k := 2) (L1 := #[true, true, false, false, false, false, false, false]) (L2 := #[true, false, true, false, false, false, false, false]) (by kernel_rfl) (by kernel_rfl) (by kernel_rfl) ?_ ?_
  ·refine sT (cleaps_any ⟨hL, hB⟩) ?_
   rintro v w17 rfl lw17
   have hsllw17 := lw17.size
   try replace hL := hL.later lw17
   try replace hB := hB.later lw17
   try replace hvh := hvh.later lw17
   replace q4 := Nat.lt_of_lt_of_le q4 lw17.size
   refine vOrd_nil ?_
   refine vT 2 ?_
   refine sZ 1 ?_
   refine vT 3 ?_
   refine s_callH 899 rfl rfl rfl (by kernel_rfl) rfl rfl (fun vr => (utai_any hb hL ⟨by omega, by omega⟩ hd hs64 ha hK)) ?_
   rintro v cs18 w18 ⟨⟨tu, rfl, th, tl, rfl, hth⟩, R7, k7, hNq, hk7, hLq⟩ gw18 vw18
   replace hB := hB.grown gw18
   have mL4 := hNq.ne nL4.2.2 q4
   replace nL4 := And.intro nL4.1 (And.intro nL4.2.1 mL4)
   clear hL
   have hL := hLq
   clear hLq
   rw [← (ckW_u (J := J) (K := K) (s := s) (a := a) hr).2] at hth
   rw [← (ckW_u (J := J) (K := K) (s := s) (a := a) hr).1]
   refine vOrd_nil ?_
   refine vTree_two (i := 4) (k := 5) (L1 := #[true, true, true, true, true, false, false, false]) (L2 := #[true, true, true, true, false, true, false, false]) (by kernel_rfl) (by kernel_rfl) (by kernel_rfl) ?_ ?_
   ·refine sZ 1 ?_
    refine vT 5 ?_
    refine sZ 1 ?_
    refine vT 6 ?_
    refine sS (fun w19 sw19 vw19 => ?_)
    replace hL := hL.sto sw19 nL4
    replace hB := hB.sto sw19 nB4
    refine vOrd_nil ?_
    refine vT 7 ?_
    refine sZ 1 ?_
    refine vTree_end (by kernel_rfl) ?_
    refine Wp.ret ⟨.inr rfl, fun mW lW => ⟨_, ⟨_, _, res_cell rfl rfl rfl rfl, res_tmp (P := Tryz.prog) rfl rfl, rfl⟩, _, rfl, ?_, lW⟩⟩
    exact ⟨_, ⟨⟨_, rfl, th, tl, rfl, hth⟩, _, _, hNq.first (by omega), ⟨by omega, by omega⟩, hL, hB⟩, mW 899 _ _ rfl⟩
   ·refine sZ 1 ?_
    refine vT 4 ?_
    refine sZ 1 ?_
    refine vT 6 ?_
    refine sS (fun w20 sw20 vw20 => ?_)
    replace hL := hL.sto sw20 nL4
    replace hB := hB.sto sw20 nB4
    refine vOrd_nil ?_
    refine vT 7 ?_
    refine sZ 1 ?_
    refine vTree_end (by kernel_rfl) ?_
    refine Wp.ret ⟨.inr rfl, fun mW lW => ⟨_, ⟨_, _, res_cell rfl rfl rfl rfl, res_tmp (P := Tryz.prog) rfl rfl, rfl⟩, _, rfl, ?_, lW⟩⟩
    exact ⟨_, ⟨⟨_, rfl, th, tl, rfl, hth⟩, _, _, hNq.first (by omega), ⟨by omega, by omega⟩, hL, hB⟩, mW 899 _ _ rfl⟩
  ·refine sZ 1 ?_
   refine vT 1 ?_
   refine sT (cleaps_any ⟨hL, hB⟩) ?_
   rintro v w21 rfl lw21
   have hsllw21 := lw21.size
   try replace hL := hL.later lw21
   try replace hB := hB.later lw21
   try replace hvh := hvh.later lw21
   replace q4 := Nat.lt_of_lt_of_le q4 lw21.size
   refine vOrd_nil ?_
   refine vT 3 ?_
   refine s_callH 899 rfl rfl rfl (by kernel_rfl) rfl rfl (fun vr => (utai_any hb hL ⟨by omega, by omega⟩ hd hs64 ha hK)) ?_
   rintro v cs22 w22 ⟨⟨tu, rfl, th, tl, rfl, hth⟩, R7, k7, hNq, hk7, hLq⟩ gw22 vw22
   replace hB := hB.grown gw22
   have mL4 := hNq.ne nL4.2.2 q4
   replace nL4 := And.intro nL4.1 (And.intro nL4.2.1 mL4)
   clear hL
   have hL := hLq
   clear hLq
   rw [← (ckW_u (J := J) (K := K) (s := s) (a := a) hr).2] at hth
   rw [← (ckW_u (J := J) (K := K) (s := s) (a := a) hr).1]
   refine vOrd_nil ?_
   refine vTree_two (i := 4) (k := 5) (L1 := #[true, true, true, true, true, false, false, false]) (L2 := #[true, true, true, true, false, true, false, false]) (by kernel_rfl) (by kernel_rfl) (by kernel_rfl) ?_ ?_
   ·refine sZ 1 ?_
    refine vT 5 ?_
    refine sZ 1 ?_
    refine vT 6 ?_
    refine sS (fun w23 sw23 vw23 => ?_)
    replace hL := hL.sto sw23 nL4
    replace hB := hB.sto sw23 nB4
    refine vOrd_nil ?_
    refine vT 7 ?_
    refine sZ 1 ?_
    refine vTree_end (by kernel_rfl) ?_
    refine Wp.ret ⟨.inr rfl, fun mW lW => ⟨_, ⟨_, _, res_cell rfl rfl rfl rfl, res_tmp (P := Tryz.prog) rfl rfl, rfl⟩, _, rfl, ?_, lW⟩⟩
    exact ⟨_, ⟨⟨_, rfl, th, tl, rfl, hth⟩, _, _, hNq.first (by omega), ⟨by omega, by omega⟩, hL, hB⟩, mW 899 _ _ rfl⟩
   ·refine sZ 1 ?_
    refine vT 4 ?_
    refine sZ 1 ?_
    refine vT 6 ?_
    refine sS (fun w24 sw24 vw24 => ?_)
    replace hL := hL.sto sw24 nL4
    replace hB := hB.sto sw24 nB4
    refine vOrd_nil ?_
    refine vT 7 ?_
    refine sZ 1 ?_
    refine vTree_end (by kernel_rfl) ?_
    refine Wp.ret ⟨.inr rfl, fun mW lW => ⟨_, ⟨_, _, res_cell rfl rfl rfl rfl, res_tmp (P := Tryz.prog) rfl rfl, rfl⟩, _, rfl, ?_, lW⟩⟩
    exact ⟨_, ⟨⟨_, rfl, th, tl, rfl, hth⟩, _, _, hNq.first (by omega), ⟨by omega, by omega⟩, hL, hB⟩, mW 899 _ _ rfl⟩
set_option maxHeartbeats 1000000 in
theorem ctai_any {t : Tb} {h b c : Nat} {R : Option Nat} {hs : List Nat} {k : Int} {w : World} (hb : canBe t = true) (H : Ck w h b c R hs t k) (hk : 0 ≤ k ∧ k ≤ 800000) {d s a : Int} (hd : I64 d) (hs64 : I64 s) (ha : I64 a) (lax : Bool) {J K : Nat} (hJ : CutP (pSD d) pubS J) (hK : Cut (pDay d) t.es K) : Calls Tryz.prog 42 #[.pointer (some ⟨h, 0, none⟩), .agg #[.int .i64 d, .int .i64 s, .int .i64 a], .bool lax] w fun e w' => ∃ v, e = .returned v ∧ (∃ cs', ((∃ u, v = .tuple #[u, .int .i64 (ckE t lax J K d s a)] ∧ IsW (ckT t lax J K d s a) u) ∧ ∃ R' k', Nx w R R' ∧ (k ≤ k' ∧ k' ≤ k + 9) ∧ Ck w' h b c R' hs t k') ∧ Var w' b cs') ∧ w.grownBy w' (some b) := by
 obtain ⟨hL, hB⟩ := H
 obtain ⟨cs0, hv⟩ := hL.var
 refine calls_WpC (args := [_, _, _]) (n := 30) hv Tryz.func42 rfl rfl (by simp) ?_
 refine Wp.seq ?_
 refine wR [0, 1, 2] ?_
 refine sE (fun bk1 w1 kb1 lw1 => ?_)
 have nL4 := hL.ne kb1
 have nB4 := hB.ne kb1
 replace hL := hL.later lw1
 replace hB := hB.later lw1
 have hs4 := lw1.size
 refine sO (fun bk2 w2 kb2 lw2 => ?_)
 have nL6 := hL.ne kb2
 have nB6 := hB.ne kb2
 replace hL := hL.later lw2
 replace hB := hB.later lw2
 have hs6 := lw2.size
 refine sZ 1 ?_
 refine Wp.seq ?_
 refine Wp.var (h := 4) rfl (fun v4 => ?_)
 have q4 := v4.lt
 refine Wp.var (h := 6) rfl (fun v6 => ?_)
 have q6 := v6.lt
 refine wQ 2 ?_
 refine s_callH 899 rfl rfl rfl (by kernel_rfl) rfl rfl (fun vr => (ctaiI_any hb ⟨hL, hB⟩ hk hd hs64 ha hJ hK)) ?_
 rintro v cs3 w3 ⟨⟨tu, rfl, th, tl, rfl, hth⟩, R9, k9, hNq, hk9, hLq, hBq⟩ gw3 vw3
 replace hB := hB.grown gw3
 have mL6 := hNq.ne nL6.2.2 q6
 replace nL6 := And.intro nL6.1 (And.intro nL6.2.1 mL6)
 clear hL
 have hL := hLq
 clear hLq
 clear hB
 have hB := hBq
 clear hBq
 refine sQ 3 ?_
 refine sO (fun bk4 w4 kb4 lw4 => ?_)
 have nL8 := hL.ne kb4
 have nB8 := hB.ne kb4
 replace hL := hL.later lw4
 replace hB := hB.later lw4
 have hs8 := lw4.size
 refine sS (fun w5 sw5 vw5 => ?_)
 replace hL := hL.sto sw5 nL8
 replace hB := hB.sto sw5 nB8
 refine sZ 1 ?_
 refine Wp.seq ?_
 refine qQ 1 ?_
 refine p_eql rfl rfl rfl rfl rfl (fun h17 => ?_) (fun h17 => ?_)
 ·have h0 : ckW t.es J K d s a = 0 := by omega
  refine sQ 3 ?_
  rcases Bool.eq_false_or_eq_true (!lax) with h20 | h20
  ·rw [h20]
   refine sQ 4 ?_
   refine sT (cexp_any ⟨hL, hB⟩ (ck_near hJ (ckE_ok (t := t) (lax := true) h0 rfl))) ?_
   rintro v w6 rfl lw6
   have hsllw6 := lw6.size
   try replace hL := hL.later lw6
   try replace hB := hB.later lw6
   try replace hvh := hvh.later lw6
   rcases Bool.eq_false_or_eq_true (ckOver t.e d s) with h25 | h25
   ·rw [h25]
    refine sZ 1 ?_
    refine Wp.condT rfl rfl ?_
    refine Wp.seq ?_
    refine wR [0, 1, 2] ?_
    refine sB ?_
    refine sS (fun w7 sw7 vw7 => ?_)
    replace hL := hL.sto sw7 nL6
    replace hB := hB.sto sw7 nB6
    refine sZ 1 ?_
    refine Wp.ret ⟨.inr rfl, fun mW lW => ⟨_, ⟨_, _, res_cell rfl rfl rfl rfl, res_tmp (P := Tryz.prog) rfl rfl, rfl⟩, _, rfl, ?_, lW⟩⟩
    have e1 : ckE t lax J K d s a = 9 := ckE_out h0 (by rw [h20, h25]; rfl)
    rw [e1, ckT_no (by rw [e1]; decide)]
    exact ⟨_, ⟨⟨_, rfl, _, _, rfl, (by unfold WideIs; omega)⟩, _, _, hNq.first (by omega), hk9, hL, hB⟩, mW 899 _ _ rfl⟩
   ·rw [h25]
    refine sZ 1 ?_
    refine Wp.condF rfl rfl ?_
    refine Wp.skip ?_
    refine qQ 2 ?_
    refine sS (fun w8 sw8 vw8 => ?_)
    replace hL := hL.sto sw8 nL6
    replace hB := hB.sto sw8 nB6
    refine sZ 1 ?_
    refine Wp.ret ⟨.inr rfl, fun mW lW => ⟨_, ⟨_, _, res_cell rfl rfl rfl rfl, res_tmp (P := Tryz.prog) rfl rfl, rfl⟩, _, rfl, ?_, lW⟩⟩
    have e1 : ckE t lax J K d s a = 0 := ckE_ok h0 (by rw [h20, h25]; rfl)
    rw [e1, ckT_ok e1]
    rw [h0]
    exact ⟨_, ⟨⟨_, rfl, _, _, rfl, hth⟩, _, _, hNq.first (by omega), hk9, hL, hB⟩, mW 899 _ _ rfl⟩
  ·rw [h20]
   refine sZ 6 ?_
   refine Wp.condF rfl rfl ?_
   refine Wp.skip ?_
   refine qQ 2 ?_
   refine sS (fun w9 sw9 vw9 => ?_)
   replace hL := hL.sto sw9 nL6
   replace hB := hB.sto sw9 nB6
   refine sZ 1 ?_
   refine Wp.ret ⟨.inr rfl, fun mW lW => ⟨_, ⟨_, _, res_cell rfl rfl rfl rfl, res_tmp (P := Tryz.prog) rfl rfl, rfl⟩, _, rfl, ?_, lW⟩⟩
   have e1 : ckE t lax J K d s a = 0 := ckE_ok h0 (by rw [h20]; rfl)
   rw [e1, ckT_ok e1]
   rw [h0]
   exact ⟨_, ⟨⟨_, rfl, _, _, rfl, hth⟩, _, _, hNq.first (by omega), hk9, hL, hB⟩, mW 899 _ _ rfl⟩
 ·refine sZ 9 ?_
  refine Wp.condF rfl rfl ?_
  refine Wp.skip ?_
  refine qQ 2 ?_
  refine sS (fun w10 sw10 vw10 => ?_)
  replace hL := hL.sto sw10 nL6
  replace hB := hB.sto sw10 nB6
  refine sZ 1 ?_
  refine Wp.ret ⟨.inr rfl, fun mW lW => ⟨_, ⟨_, _, res_cell rfl rfl rfl rfl, res_tmp (P := Tryz.prog) rfl rfl, rfl⟩, _, rfl, ?_, lW⟩⟩
  have e1 : ckE t lax J K d s a = ckW t.es J K d s a := ckE_bad (by omega)
  rw [e1, ckT_no (by rw [e1]; omega)]
  rw [ckG_no (by omega)] at hth
  exact ⟨_, ⟨⟨_, rfl, _, _, rfl, hth⟩, _, _, hNq.first (by omega), hk9, hL, hB⟩, mW 899 _ _ rfl⟩
set_option maxHeartbeats 1000000 in
theorem cexists_any {t : Tb} {h b c : Nat} {R : Option Nat} {hs : List Nat} {k : Int} {w : World} (hb : canBe t = true) (H : Ck w h b c R hs t k) (hk : 0 ≤ k ∧ k ≤ 800000) {d s a : Int} (hd : I64 d) (hs64 : I64 s) (ha : I64 a) {J K : Nat} (hJ : CutP (pSD d) pubS J) (hK : Cut (pDay d) t.es K) : Calls Tryz.prog 20 #[.pointer (some ⟨h, 0, none⟩), .agg #[.int .i64 d, .int .i64 s, .int .i64 a]] w fun e w' => ∃ v, e = .returned v ∧ (∃ cs', (v = .bool (decide (ckE t true J K d s a = 0)) ∧ ∃ R' k', Nx w R R' ∧ (k ≤ k' ∧ k' ≤ k + 9) ∧ Ck w' h b c R' hs t k') ∧ Var w' b cs') ∧ w.grownBy w' (some b) := by
 obtain ⟨hL, hB⟩ := H
 obtain ⟨cs0, hv⟩ := hL.var
 rw [ckE_lax]
 refine calls_WpC (args := [_, _]) (n := 15) hv Tryz.func20 rfl rfl (by simp) ?_
 refine Wp.seq ?_
 refine wR [0, 1] ?_
 refine sE (fun bk1 w1 kb1 lw1 => ?_)
 have nL3 := hL.ne kb1
 have nB3 := hB.ne kb1
 replace hL := hL.later lw1
 replace hB := hB.later lw1
 have hs3 := lw1.size
 refine sZ 1 ?_
 refine Wp.seq ?_
 refine Wp.var (h := 3) rfl (fun v3 => ?_)
 have q3 := v3.lt
 refine wQ 2 ?_
 refine s_callH 899 rfl rfl rfl (by kernel_rfl) rfl rfl (fun vr => (ctaiI_any hb ⟨hL, hB⟩ hk hd hs64 ha hJ hK)) ?_
 rintro v cs2 w2 ⟨⟨tu, rfl, th, tl, rfl, hth⟩, R9, k9, hNq, hk9, hLq, hBq⟩ gw2 vw2
 replace hB := hB.grown gw2
 have mL3 := hNq.ne nL3.2.2 q3
 replace nL3 := And.intro nL3.1 (And.intro nL3.2.1 mL3)
 clear hL
 have hL := hLq
 clear hLq
 clear hB
 have hB := hBq
 clear hBq
 refine sQ 3 ?_
 refine sO (fun bk3 w3 kb3 lw3 => ?_)
 have nL5 := hL.ne kb3
 have nB5 := hB.ne kb3
 replace hL := hL.later lw3
 replace hB := hB.later lw3
 have hs5 := lw3.size
 refine sS (fun w4 sw4 vw4 => ?_)
 replace hL := hL.sto sw4 nL5
 replace hB := hB.sto sw4 nB5
 refine sZ 1 ?_
 refine qQ 1 ?_
 refine p_eql rfl rfl rfl rfl rfl (fun h14 => ?_) (fun h14 => ?_)
 ·refine sZ 1 ?_
  refine Wp.ret ⟨.inr rfl, fun mW lW => ⟨_, res_tmp (P := Tryz.prog) rfl rfl, _, rfl, ?_, lW⟩⟩
  rw [decide_eq_true (by omega)]
  exact ⟨_, ⟨rfl, _, _, hNq.first (by omega), hk9, hL, hB⟩, mW 899 _ _ rfl⟩
 ·refine sZ 1 ?_
  refine Wp.ret ⟨.inr rfl, fun mW lW => ⟨_, res_tmp (P := Tryz.prog) rfl rfl, _, rfl, ?_, lW⟩⟩
  rw [decide_eq_false (by omega)]
  exact ⟨_, ⟨rfl, _, _, hNq.first (by omega), hk9, hL, hB⟩, mW 899 _ _ rfl⟩
set_option maxHeartbeats 1000000 in
theorem cnew_yes (t : Tb) (hb : canBe t = true) (hu : I64 t.u) (he : I64 t.e) {a : Option Addr} {c0 : Nat} {w : World} (hv : EntAt w (.slice a t.es.length c0) t.es) : Calls Tryz.prog 16 #[tbV t (.slice a t.es.length c0)] w fun e w' => ∃ r, e = .returned r ∧ (∃ h b c R hs k, r = .tuple #[.pointer (some ⟨h, 0, none⟩), .int .i64 0] ∧ w.heap.size ≤ h ∧ w.heap.size ≤ b ∧ (0 ≤ k ∧ k ≤ 100) ∧ Ck w' h b c R hs t k) ∧ Below w.heap.size w w' := by
 have hpos := (can_num hb).2.2
 obtain ⟨x0, hx0⟩ : ∃ x, t.es[0]? = some x := ⟨_, List.getElem?_eq_getElem hpos⟩
 have hold := ck_old hx0
 have hd1 : dayA t.es 1 = dayE x0 := (A_at hx0).1
 obtain ⟨ab, ao, rfl, hcell⟩ := ent_at hv hpos
 obtain ⟨kx1, kx2⟩ := hcell 0 x0 hx0
 have lz := Later.refl w
 refine calls_Wp (args := [_]) (n := 40) Tryz.func16 rfl rfl (by simp) ?_
 refine Wp.seq ?_
 refine wR [0, 1, 2] ?_
 refine sE (fun bk1 w1 kb1 lw1 => ?_)
 try have kz1 := Nat.le_trans lz.size kb1
 try have nL1 := hL.ne kb1
 try replace hL := hL.later lw1
 replace lz := lz.trans lw1
 refine sZ 2 ?_
 refine Wp.seq ?_
 refine Wp.var (h := 1) rfl (fun v1 => ?_)
 have q1 := v1.lt
 refine wQ 1 ?_
 refine sT (new_yes t hb hu he (hv.later lz)) ?_
 rintro v w2 ⟨b1, c1, rfl, hc1, hcb, hL⟩ lw2
 replace lz := lz.trans lw2
 try replace hL := hL.later lw2
 try replace hR := hR.later lw2
 have hbz : w.heap.size ≤ b1 := by have := lw1.size; omega
 refine sZ 5 ?_
 refine Wp.seq ?_
 refine qQ 1 ?_
 refine f_neq rfl rfl rfl rfl rfl (by omega) ?_
 refine vOrd_nil ?_
 refine Wp.condF rfl rfl ?_
 refine Wp.skip ?_
 refine qQ 3 ?_
 refine sB ?_
 refine sE (fun bk3 w3 kb3 lw3 => ?_)
 try have kz19 := Nat.le_trans lz.size kb3
 try have nL19 := hL.ne kb3
 try replace hL := hL.later lw3
 replace lz := lz.trans lw3
 refine sZ 1 ?_
 refine Wp.seq ?_
 refine Wp.seq ?_
 refine Wp.var (h := 19) rfl (fun v19 => ?_)
 have q19 := v19.lt
 obtain ⟨cs1, hvb⟩ := hL.var
 refine Wp.adopt 1007 hvb hbz rfl (show AllMem (fun d => d ≠ b1) _ from (by repeat (first | exact AllMem.args | exact AllMem.of (by simp only [AllL, and_true]; omega) | refine AllMem.put ?_ | refine AllMem.new ?_ (by omega) | refine AllMem.set ?_ (by omega)))) ?_
 refine wQ 1 ?_
 refine s_callH 1007 rfl rfl rfl (by kernel_rfl) rfl rfl (fun vr => (first_any hb hL)) ?_
 rintro v cs4 w4 ⟨rfl, R4, hN4, hLq⟩ gw4 vw4
 replace lz := lz.past gw4 hbz
 try replace hR := hR.grown gw4 nRb
 clear hL
 have hL := hLq
 clear hLq
 replace nL19 := And.intro nL19.1 (And.intro nL19.2.1 (hN4.ne nL19.2.2 q19))
 refine p_eql rfl rfl rfl rfl rfl (fun h22 => ?_) (fun h22 => ?_)
 ·refine sQ 3 ?_
  refine sI (sz := 2) (ao + 0 * 2) ?_
  refine s_fieldV (ao + 0 * 2 + 1) rfl rfl rfl rfl 1 rfl rfl ?_
  refine xC (cell_later lz kx2) ?_
  refine p_eql rfl rfl rfl rfl rfl (fun h29 => ?_) (fun h29 => ?_)
  ·refine sZ 1 ?_
   refine Wp.condT rfl rfl ?_
   refine Wp.var (h := 19) rfl (fun v19 => ?_)
   have q19 := v19.lt
   refine Wp.var (h := 1007) rfl (fun v1007 => ?_)
   have q1007 := v1007.lt
   refine wQ 1 ?_
   refine sT (psegs_any) ?_
   rintro v w9 ⟨sc, rfl, hsc, hsv⟩ lw9
   replace lz := lz.trans lw9
   try replace hL := hL.later lw9
   try replace hR := hR.later lw9
   refine s_callT rfl rfl rfl (by kernel_rfl) rfl (pnew_yes pubS (by decide) ⟨by decide, by decide⟩ ⟨by decide, by decide⟩ pub_may15 (pub_at15 hsv)) ?_
   rintro v w10 ⟨r1, rs1, rfl, hr1, hR⟩ lw10
   replace lz := lz.trans lw10
   try replace hL := hL.later lw10
   try replace hR := hR.later lw10
   have nR19 : ∀ x ∈ r1 :: rs1, x ≠ bk3 := fun x hx => by have := hr1 x hx; have := lw9.size; omega
   have nRb : ∀ x ∈ r1 :: rs1, x ≠ b1 := fun x hx => by have := hr1 x hx; have := lw9.size; omega
   refine sQ 5 ?_
   refine sS (fun w11 sw11 vw11 => ?_)
   replace lz := lz.sto sw11 kz19
   try replace hL := hL.sto sw11 nL19
   try replace hR := hR.sto sw11 nR19
   refine vOrd_nil ?_
   refine Wp.seq ?_
   refine Wp.var (h := 19) rfl (fun v19 => ?_)
   refine wZ ?_
   refine Wp.ret ⟨.inr rfl, fun lW => ⟨_, ⟨_, _, res_ptr (P := Tryz.prog) rfl, res_tmp (P := Tryz.prog) rfl rfl, rfl⟩, _, rfl, ?_, lW⟩⟩
   clear lW
   exact ⟨bk3, b1, c1, _, r1 :: rs1, _, rfl, kz19, hbz, ⟨by omega, by omega⟩, hL, fun x hx => by rcases List.mem_cons.1 hx with rfl | hx; exact fun e => nL19.1 e.symm; exact nRb x hx, _, v19, .inr ⟨by rw [hold, decide_eq_true (by omega), decide_eq_true h29]; rfl, r1, rs1, rfl, rfl, hR⟩⟩
  ·refine sZ 1 ?_
   refine Wp.condF rfl rfl ?_
   refine Wp.skip ?_
   refine Wp.seq ?_
   refine Wp.var (h := 19) rfl (fun v19 => ?_)
   refine wZ ?_
   refine Wp.ret ⟨.inr rfl, fun lW => ⟨_, ⟨_, _, res_ptr (P := Tryz.prog) rfl, res_tmp (P := Tryz.prog) rfl rfl, rfl⟩, _, rfl, ?_, lW⟩⟩
   clear lW
   exact ⟨bk3, b1, c1, _, [], _, rfl, kz19, hbz, ⟨by omega, by omega⟩, hL, by simp; exact fun e => nL19.1 e.symm, none, v19, .inl ⟨by rw [hold, decide_eq_false h29, Bool.and_false], rfl, rfl⟩⟩
 ·refine sZ 8 ?_
  refine Wp.condF rfl rfl ?_
  refine Wp.skip ?_
  refine Wp.seq ?_
  refine Wp.var (h := 19) rfl (fun v19 => ?_)
  refine wZ ?_
  refine Wp.ret ⟨.inr rfl, fun lW => ⟨_, ⟨_, _, res_ptr (P := Tryz.prog) rfl, res_tmp (P := Tryz.prog) rfl rfl, rfl⟩, _, rfl, ?_, lW⟩⟩
  clear lW
  exact ⟨bk3, b1, c1, _, [], _, rfl, kz19, hbz, ⟨by omega, by omega⟩, hL, by simp; exact fun e => nL19.1 e.symm, none, v19, .inl ⟨by rw [hold, decide_eq_false (by omega), Bool.false_and], rfl, rfl⟩⟩
theorem cnew_no (t : Tb) (hb : canBe t = false) (hu : I64 t.u) (he : I64 t.e) {a : Option Addr} {c0 : Nat} {w : World} (hv : EntAt w (.slice a t.es.length c0) t.es) : Calls Tryz.prog 16 #[tbV t (.slice a t.es.length c0)] w fun e w' => ∃ r, e = .returned r ∧ r = .tuple #[.pointer none, .int .i64 10] ∧ Below w.heap.size w w' := by
 have lz := Later.refl w
 refine calls_Wp (args := [_]) (n := 40) Tryz.func16 rfl rfl (by simp) ?_
 refine Wp.seq ?_
 refine wR [0, 1, 2] ?_
 refine sE (fun bk1 w1 kb1 lw1 => ?_)
 try have kz1 := Nat.le_trans lz.size kb1
 try have nL1 := hL.ne kb1
 try replace hL := hL.later lw1
 replace lz := lz.trans lw1
 refine sZ 2 ?_
 refine qQ 1 ?_
 refine sT (new_no t hb hu he (hv.later lz)) ?_
 rintro v w2 rfl lw2
 replace lz := lz.trans lw2
 try replace hL := hL.later lw2
 try replace hR := hR.later lw2
 refine sZ 5 ?_
 refine Wp.seq ?_
 refine qQ 1 ?_
 refine t_neq rfl rfl rfl rfl rfl (by omega) ?_
 refine vOrd_nil ?_
 refine Wp.condT rfl rfl ?_
 refine qZ ?_
 refine Wp.ret ⟨.inr rfl, fun lW => ⟨_, ⟨_, _, res_tmp (P := Tryz.prog) rfl rfl, res_tmp (P := Tryz.prog) rfl rfl, rfl⟩, _, rfl, ?_, lW⟩⟩
 clear lW
 rfl
end Go.Proofs.YthihioakjpmnbaaGreat
