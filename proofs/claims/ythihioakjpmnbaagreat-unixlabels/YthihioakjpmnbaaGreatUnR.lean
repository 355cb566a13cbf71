/-
 The contracts of the reference of layer 15 that layer 17 uses: Form, Unix, Labels (P17.1, P17.2).
-/
import Derived.Test.YthihioakjpmnbaaGreatUnA
import Derived.Test.YthihioakjpmnbaaGreatClR
namespace Go.Proofs.YthihioakjpmnbaaGreat
open Go.RowKit
set_option maxRecDepth 100000

theorem Later.top {w w' : World} (l : Later w w') : ∃ B, B = w'.heap.size ∧ w.heap.size ≤ B := ⟨_, rfl, l.size⟩
theorem r15form_any (d s a : Int) {w : World} : Calls Tryz.prog 10 #[.agg #[.int .i64 d, .int .i64 s, .int .i64 a]] w fun e w' => ∃ r, e = .returned r ∧ r = .bool (isU s a) ∧ Below w.heap.size w w' := by
 refine calls_Wp (args := [_]) (n := 21) Tryz.func10 rfl rfl (by simp) ?_
 refine Wp.seq ?_
 refine wR [0, 1] ?_
 refine sE (fun bk1 w1 kb1 lw1 => ?_)
 refine sZ 1 ?_
 refine qQ 2 ?_
 refine p_geq rfl rfl rfl rfl rfl (fun h5 => ?_) (fun h5 => ?_)
 ·refine sQ 3 ?_
  refine p_leq rfl rfl rfl rfl rfl (fun h9 => ?_) (fun h9 => ?_)
  ·refine sQ 4 ?_
   refine p_geq rfl rfl rfl rfl rfl (fun h14 => ?_) (fun h14 => ?_)
   ·refine sQ 4 ?_
    refine p_lss rfl rfl rfl rfl rfl (fun h19 => ?_) (fun h19 => ?_)
    ·refine sZ 2 ?_
     refine Wp.ret ⟨.inr rfl, fun lW => ⟨_, res_tmp (P := Tryz.prog) rfl rfl, _, rfl, ?_, lW⟩⟩
     clear lW
     rw [isU_iff.2 (by omega)]
    ·refine sZ 2 ?_
     refine Wp.ret ⟨.inr rfl, fun lW => ⟨_, res_tmp (P := Tryz.prog) rfl rfl, _, rfl, ?_, lW⟩⟩
     clear lW
     rw [isU_no.2 (by omega)]
   ·refine sZ 7 ?_
    refine Wp.ret ⟨.inr rfl, fun lW => ⟨_, res_tmp (P := Tryz.prog) rfl rfl, _, rfl, ?_, lW⟩⟩
    clear lW
    rw [isU_no.2 (by omega)]
  ·refine sZ 12 ?_
   refine Wp.ret ⟨.inr rfl, fun lW => ⟨_, res_tmp (P := Tryz.prog) rfl rfl, _, rfl, ?_, lW⟩⟩
   clear lW
   rw [isU_no.2 (by omega)]
 ·refine sZ 16 ?_
  refine Wp.ret ⟨.inr rfl, fun lW => ⟨_, res_tmp (P := Tryz.prog) rfl rfl, _, rfl, ?_, lW⟩⟩
  clear lW
  rw [isU_no.2 (by omega)]
theorem runix_any {d s a : Int} (hd : I64 d) (hs : I64 s) (ha : I64 a) {w : World} : Calls Tryz.prog 15 #[.agg #[.int .i64 d, .int .i64 s, .int .i64 a]] w fun e w' => ∃ r, e = .returned r ∧ IsBig 18 (cnt d s a - cnt 40587 0 0) r w' ∧ Below w.heap.size w w' := by
 refine calls_Wp (args := [_]) (n := 8) Tryz.func15 rfl rfl (by simp) ?_
 refine Wp.seq ?_
 refine wR [0, 1] ?_
 refine sE (fun bk1 w1 kb1 lw1 => ?_)
 refine sO (fun bk2 w2 kb2 lw2 => ?_)
 refine vOrd_nil ?_
 refine qQ 1 ?_
 refine sT (rjoin_any hd hs ha _) ?_
 rintro v w3 h1 lw3
 refine sB ?_
 refine sT (rjoin_any (d := 40587) (s := 0) (a := 0) ⟨by decide, by decide⟩ ⟨by decide, by decide⟩ ⟨by decide, by decide⟩ _) ?_
 rintro v w4 h2 lw4
 refine s_callT rfl rfl rfl (by kernel_rfl) rfl (c_rsub (h1.kp) (h2.kp) (by decide) (by decide)) ?_
 rintro v w5 h3 lw5
 obtain ⟨h3a, h3l, h3c, rfl, -⟩ := id h3
 refine sS (fun w6 sw6 vw6 => ?_)
 refine vOrd_nil ?_
 refine Wp.ret ⟨.inr rfl, fun lW => ⟨_, res_cell rfl rfl rfl rfl, _, rfl, ?_, lW⟩⟩
 clear lW
 exact h3.kp
/-- The labels, as a row's cells. -/
def ulC (p q : Bool) (D S A : Int) : List Value := (if p = true then [.int .i64 (D - 1), .int .i64 86400, .int .i64 A] else []) ++ (if q = true then [.int .i64 D, .int .i64 S, .int .i64 A] else [])
def ulN (p q : Bool) : Nat := (if p = true then 1 else 0) + (if q = true then 1 else 0)
/-- The labels (J, K: of the plain one's day; J', K': of the day ahead). -/
def UlIs (w : World) (base : Nat) (v : Value) (p q : Bool) (D S A : Int) : Prop := w.ownsRow base 23 3 v (ulN p q) (ulC p q D S A)
set_option maxHeartbeats 1000000 in
theorem rulabels_far (t : Tb) {v : Value} {z : Int} {u : Value} {w : World} (hu : IsBig 11 z u w) (hB : inB (dayZ (ulZ z)) = false) : Calls Tryz.prog 19 #[.agg #[.int .i64 t.u, .int .i64 t.e, v], u] w fun e w' => ∃ r, e = .returned r ∧ r = .tuple #[.slice none 0 0, .int .i64 2] ∧ Below w.heap.size w w' := by
 obtain ⟨ua, ul, uc, rfl, -⟩ := id hu
 refine calls_Wp (args := [_, _]) (n := 64) Tryz.func19 rfl rfl (by simp) ?_
 refine Wp.seq ?_
 refine wR [0, 1, 2, 3] ?_
 refine sE (fun bk1 w1 kb1 lw1 => ?_)
 refine sE (fun bk2 w2 kb2 lw2 => ?_)
 refine sZ 2 ?_
 refine Wp.seq ?_
 refine wD [0, 1, 8, 2, 3, 4, 5, 6, 7, 9, 10] [262, 257, 255, 0, 0, 0, 0, 447, 895, 0, 0] (fun | 2 => IsBig 17 (cnt 40587 0 0) | 3 => IsBig 18 (ulZ z) | 4 => fun v _ => v = .tuple #[.agg #[.int .i64 (splD (ulZ z)), .int .i64 (splS (ulZ z)), .int .i64 (splA (ulZ z))], .bool (inB (dayZ (ulZ z)))] | _ => fun _ _ => True) (fun _ _ => ?_)
 refine sL ?_
 refine sB ?_
 refine sO (fun bk3 w3 kb3 lw3 => ?_)
 refine sD (fun wc lc => rjoin_any (d := 40587) (s := 0) (a := 0) ⟨by decide, by decide⟩ ⟨by decide, by decide⟩ ⟨by decide, by decide⟩ wc) ?_
 rintro v w4 u4 h1 lw4 mw4
 refine s_callD rfl rfl rfl (by kernel_rfl) rfl (fun wc lc => c_add (hu.kp) (h1.kp) (by decide) (by decide)) ?_
 rintro v w5 u5 h2 lw5 mw5
 refine s_callD rfl rfl rfl (by kernel_rfl) rfl (fun wc lc => rsplit_any (h2.kp) (by decide)) ?_
 rintro v w6 u6 rfl lw6 mw6
 rw [hB]
 refine sQ 3 ?_
 refine sS (fun w7 sw7 vw7 => ?_)
 refine sZ 1 ?_
 refine Wp.seq ?_
 refine qZ ?_
 refine Wp.condT rfl rfl ?_
 refine qZ ?_
 refine Wp.ret ⟨.inr rfl, fun lW => ⟨_, ⟨_, _, res_tmp (P := Tryz.prog) rfl rfl, res_tmp (P := Tryz.prog) rfl rfl, rfl⟩, _, rfl, ?_, lW⟩⟩
 clear lW
 rfl
set_option maxHeartbeats 2000000 in
theorem rulabels_any (t : Tb) (hb : canBe t = true) {a0 : Option Addr} {c0 : Nat} {w : World} (hv : EntAt w (.slice a0 t.es.length c0) t.es) {z : Int} {u : Value} (hu : IsBig 11 z u w) (hB : inB (dayZ (ulZ z)) = true) {J K J' K' : Nat} (hJ : CutP (pSD (dayZ (ulZ z))) pubS J) (hK : Cut (pDay (dayZ (ulZ z))) t.es K) (hJ' : CutP (pSD (dayZ (ulZ z) - 1)) pubS J') (hK' : Cut (pDay (dayZ (ulZ z) - 1)) t.es K') {p q : Bool} (hp : ulP t J' K' z = p) (hq : ulQ t J K z = q) : Calls Tryz.prog 19 #[tbV t (.slice a0 t.es.length c0), u] w fun e w' => ∃ r, e = .returned r ∧ (∃ v base, r = .tuple #[v, .int .i64 (if (p || q) = true then 0 else ckE t true J K (dayZ (ulZ z)) (secZ (ulZ z)) (attZ (ulZ z)))] ∧ w.heap.size ≤ base ∧ UlIs w' base v p q (dayZ (ulZ z)) (secZ (ulZ z)) (attZ (ulZ z))) ∧ Below w.heap.size w w' := by
 obtain ⟨ua, ul, uc, rfl, -⟩ := id hu
 obtain ⟨e1, e2, e3⟩ := spl_yes hB
 have hB' := inB_iff.1 hB
 have hl := isL_iff.1 (joinZ (ulZ z)).1
 unfold ulP at hp
 unfold ulQ at hq
 obtain ⟨D, hD⟩ : ∃ D, dayZ (ulZ z) = D := ⟨_, rfl⟩
 obtain ⟨S, hS⟩ : ∃ S, secZ (ulZ z) = S := ⟨_, rfl⟩
 obtain ⟨A, hA⟩ : ∃ A, attZ (ulZ z) = A := ⟨_, rfl⟩
 obtain ⟨E1, hE1⟩ : ∃ E, ckE t true J' K' (D - 1) 86400 A = E := ⟨_, rfl⟩
 obtain ⟨E2, hE2⟩ : ∃ E, ckE t true J K D S A = E := ⟨_, rfl⟩
 rw [hD] at e1 hJ hK hJ' hK' hB'
 rw [hS] at e2 hl
 rw [hA] at e3 hl
 rw [hD, hS, hA, hE1] at hp
 rw [hD, hS, hA, hE2] at hq
 rw [hD, hS, hA, hE2]
 cases p with
 | false =>
  cases q with
  | false =>
   rw [← Bool.not_eq_true, Bool.and_eq_true, decide_eq_true_eq, decide_eq_true_eq] at hp
   have hq := of_decide_eq_false hq
   refine calls_Wp (args := [_, _]) (n := 64) Tryz.func19 rfl rfl (by simp) ?_
   refine Wp.seq ?_
   refine wR [0, 1, 2, 3] ?_
   refine sE (fun bk1 w1 kb1 lw1 => ?_)
   try have nO2 := own_ne hown (.inr kb1)
   try replace hown := own_later hown lw1
   try replace hsB := Nat.le_trans hsB lw1.size
   refine sE (fun bk2 w2 kb2 lw2 => ?_)
   try have nO3 := own_ne hown (.inr kb2)
   try replace hown := own_later hown lw2
   try replace hsB := Nat.le_trans hsB lw2.size
   refine sZ 2 ?_
   refine Wp.seq ?_
   refine wD [0, 1, 8, 2, 3, 4, 5, 6, 7, 9, 10] [262, 257, 255, 0, 0, 0, 0, 447, 895, 0, 0] (fun | 2 => IsBig 17 (cnt 40587 0 0) | 3 => IsBig 18 (ulZ z) | 4 => fun v _ => v = .tuple #[.agg #[.int .i64 (splD (ulZ z)), .int .i64 (splS (ulZ z)), .int .i64 (splA (ulZ z))], .bool (inB (dayZ (ulZ z)))] | _ => fun _ _ => True) (fun wd ld => ?_)
   try replace hown := own_later hown ld
   try replace hsB := Nat.le_trans hsB ld.size
   refine sL ?_
   refine sB ?_
   refine sO (fun bk3 w3 kb3 lw3 => ?_)
   try have nO6 := own_ne hown (.inr kb3)
   try replace hown := own_later hown lw3
   try replace hsB := Nat.le_trans hsB lw3.size
   refine sD (fun wc lc => rjoin_any (d := 40587) (s := 0) (a := 0) ⟨by decide, by decide⟩ ⟨by decide, by decide⟩ ⟨by decide, by decide⟩ wc) ?_
   rintro v w4 u4 h1 lw4 mw4
   try replace hown := own_later hown lw4
   try replace hsB := Nat.le_trans hsB lw4.size
   try replace hown := own_later hown mw4
   try replace hsB := Nat.le_trans hsB mw4.size
   refine s_callD rfl rfl rfl (by kernel_rfl) rfl (fun wc lc => c_add (hu.kp) (h1.kp) (by decide) (by decide)) ?_
   rintro v w5 u5 h2 lw5 mw5
   try replace hown := own_later hown lw5
   try replace hsB := Nat.le_trans hsB lw5.size
   try replace hown := own_later hown mw5
   try replace hsB := Nat.le_trans hsB mw5.size
   refine s_callD rfl rfl rfl (by kernel_rfl) rfl (fun wc lc => rsplit_any (h2.kp) (by decide)) ?_
   rintro v w6 u6 rfl lw6 mw6
   try replace hown := own_later hown lw6
   try replace hsB := Nat.le_trans hsB lw6.size
   try replace hown := own_later hown mw6
   try replace hsB := Nat.le_trans hsB mw6.size
   rw [hB]
   rw [e1, e2, e3]
   refine sQ 3 ?_
   refine sS (fun w7 sw7 vw7 => ?_)
   try replace hsB := Nat.le_trans hsB (Nat.le_of_eq sw7.size.symm)
   try replace hown := own_sto hown sw7 nO6
   refine sZ 1 ?_
   refine Wp.seq ?_
   refine qZ ?_
   refine Wp.condF rfl rfl ?_
   refine Wp.skip ?_
   refine qZ ?_
   refine qQ 2 ?_
   refine aM (-9223372036854775808) 9223372036854775807 ?_
   refine sQ 2 ?_
   refine sB ?_
   refine sO (fun bk8 w8 kb8 lw8 => ?_)
   try have nO9 := own_ne hown (.inr kb8)
   try replace hown := own_later hown lw8
   try replace hsB := Nat.le_trans hsB lw8.size
   refine sS (fun w9 sw9 vw9 => ?_)
   try replace hsB := Nat.le_trans hsB (Nat.le_of_eq sw9.size.symm)
   try replace hown := own_sto hown sw9 nO9
   refine vOrd_nil ?_
   refine Wp.seq ?_
   refine Wp.seq ?_
   refine Wp.old (fun lo => ?_)
   refine wQ 2 ?_
   refine sT (r15tai_any t hb (hv.later lo) (d := (D - 1)) (s := 86400) (a := A) ⟨by omega, by omega⟩ ⟨by omega, by omega⟩ ⟨by omega, by omega⟩ true hJ' hK') ?_
   rintro v w10 ⟨tb10, ta10, tl10, tc10, rfl, -⟩ lw10
   try replace hown := own_later hown lw10
   try replace hsB := Nat.le_trans hsB lw10.size
   rw [hE1]
   refine sQ 3 ?_
   refine sO (fun bk11 w11 kb11 lw11 => ?_)
   try have nO10 := own_ne hown (.inr kb11)
   try replace hown := own_later hown lw11
   try replace hsB := Nat.le_trans hsB lw11.size
   refine sS (fun w12 sw12 vw12 => ?_)
   try replace hsB := Nat.le_trans hsB (Nat.le_of_eq sw12.size.symm)
   try replace hown := own_sto hown sw12 nO10
   refine sZ 1 ?_
   refine qQ 2 ?_
   refine p_eql rfl rfl rfl rfl rfl (fun h38 => ?_) (fun h38 => ?_)
   ·refine sQ 2 ?_
    refine f_eql rfl rfl rfl rfl rfl (by omega) ?_
    refine sZ 1 ?_
    refine Wp.condF rfl rfl ?_
    refine Wp.skip ?_
    refine Wp.seq ?_
    refine Wp.old (fun lo => ?_)
    refine wQ 2 ?_
    refine sT (r15tai_any t hb (hv.later lo) (d := D) (s := S) (a := A) ⟨by omega, by omega⟩ ⟨by omega, by omega⟩ ⟨by omega, by omega⟩ true hJ hK) ?_
    rintro v w13 ⟨tb13, ta13, tl13, tc13, rfl, -⟩ lw13
    try replace hown := own_later hown lw13
    try replace hsB := Nat.le_trans hsB lw13.size
    rw [hE2]
    refine sQ 3 ?_
    refine sO (fun bk14 w14 kb14 lw14 => ?_)
    try have nO12 := own_ne hown (.inr kb14)
    try replace hown := own_later hown lw14
    try replace hsB := Nat.le_trans hsB lw14.size
    refine sS (fun w15 sw15 vw15 => ?_)
    try replace hsB := Nat.le_trans hsB (Nat.le_of_eq sw15.size.symm)
    try replace hown := own_sto hown sw15 nO12
    refine sZ 1 ?_
    refine Wp.seq ?_
    refine qQ 1 ?_
    refine f_eql rfl rfl rfl rfl rfl (by omega) ?_
    refine vOrd_nil ?_
    refine Wp.condF rfl rfl ?_
    refine Wp.skip ?_
    refine Wp.seq ?_
    refine qQ 1 ?_
    refine x_len rfl rfl rfl rfl rfl ?_
    refine t_eql rfl rfl rfl rfl rfl (by omega) ?_
    refine vOrd_nil ?_
    refine Wp.condT rfl rfl ?_
    refine qZ ?_
    refine Wp.ret ⟨.inr rfl, fun lW => ⟨_, ⟨_, _, res_tmp (P := Tryz.prog) rfl rfl, res_tmp (P := Tryz.prog) rfl rfl, rfl⟩, _, rfl, ?_, lW⟩⟩
    clear lW
    exact ⟨_, w.heap.size, rfl, Nat.le_refl _, rfl, .inl ⟨rfl, rfl⟩⟩
   ·refine sZ 4 ?_
    refine Wp.condF rfl rfl ?_
    refine Wp.skip ?_
    refine Wp.seq ?_
    refine Wp.old (fun lo => ?_)
    refine wQ 2 ?_
    refine sT (r15tai_any t hb (hv.later lo) (d := D) (s := S) (a := A) ⟨by omega, by omega⟩ ⟨by omega, by omega⟩ ⟨by omega, by omega⟩ true hJ hK) ?_
    rintro v w16 ⟨tb16, ta16, tl16, tc16, rfl, -⟩ lw16
    try replace hown := own_later hown lw16
    try replace hsB := Nat.le_trans hsB lw16.size
    rw [hE2]
    refine sQ 3 ?_
    refine sO (fun bk17 w17 kb17 lw17 => ?_)
    try have nO12 := own_ne hown (.inr kb17)
    try replace hown := own_later hown lw17
    try replace hsB := Nat.le_trans hsB lw17.size
    refine sS (fun w18 sw18 vw18 => ?_)
    try replace hsB := Nat.le_trans hsB (Nat.le_of_eq sw18.size.symm)
    try replace hown := own_sto hown sw18 nO12
    refine sZ 1 ?_
    refine Wp.seq ?_
    refine qQ 1 ?_
    refine f_eql rfl rfl rfl rfl rfl (by omega) ?_
    refine vOrd_nil ?_
    refine Wp.condF rfl rfl ?_
    refine Wp.skip ?_
    refine Wp.seq ?_
    refine qQ 1 ?_
    refine x_len rfl rfl rfl rfl rfl ?_
    refine t_eql rfl rfl rfl rfl rfl (by omega) ?_
    refine vOrd_nil ?_
    refine Wp.condT rfl rfl ?_
    refine qZ ?_
    refine Wp.ret ⟨.inr rfl, fun lW => ⟨_, ⟨_, _, res_tmp (P := Tryz.prog) rfl rfl, res_tmp (P := Tryz.prog) rfl rfl, rfl⟩, _, rfl, ?_, lW⟩⟩
    clear lW
    exact ⟨_, w.heap.size, rfl, Nat.le_refl _, rfl, .inl ⟨rfl, rfl⟩⟩
  | true =>
   rw [← Bool.not_eq_true, Bool.and_eq_true, decide_eq_true_eq, decide_eq_true_eq] at hp
   have hq := of_decide_eq_true hq
   refine calls_Wp (args := [_, _]) (n := 64) Tryz.func19 rfl rfl (by simp) ?_
   refine Wp.seq ?_
   refine wR [0, 1, 2, 3] ?_
   refine sE (fun bk1 w1 kb1 lw1 => ?_)
   try have nO2 := own_ne hown (.inr kb1)
   try replace hown := own_later hown lw1
   try replace hsB := Nat.le_trans hsB lw1.size
   refine sE (fun bk2 w2 kb2 lw2 => ?_)
   try have nO3 := own_ne hown (.inr kb2)
   try replace hown := own_later hown lw2
   try replace hsB := Nat.le_trans hsB lw2.size
   refine sZ 2 ?_
   refine Wp.seq ?_
   refine wD [0, 1, 8, 2, 3, 4, 5, 6, 7, 9, 10] [262, 257, 255, 0, 0, 0, 0, 447, 895, 0, 0] (fun | 2 => IsBig 17 (cnt 40587 0 0) | 3 => IsBig 18 (ulZ z) | 4 => fun v _ => v = .tuple #[.agg #[.int .i64 (splD (ulZ z)), .int .i64 (splS (ulZ z)), .int .i64 (splA (ulZ z))], .bool (inB (dayZ (ulZ z)))] | _ => fun _ _ => True) (fun wd ld => ?_)
   try replace hown := own_later hown ld
   try replace hsB := Nat.le_trans hsB ld.size
   refine sL ?_
   refine sB ?_
   refine sO (fun bk3 w3 kb3 lw3 => ?_)
   try have nO6 := own_ne hown (.inr kb3)
   try replace hown := own_later hown lw3
   try replace hsB := Nat.le_trans hsB lw3.size
   refine sD (fun wc lc => rjoin_any (d := 40587) (s := 0) (a := 0) ⟨by decide, by decide⟩ ⟨by decide, by decide⟩ ⟨by decide, by decide⟩ wc) ?_
   rintro v w4 u4 h1 lw4 mw4
   try replace hown := own_later hown lw4
   try replace hsB := Nat.le_trans hsB lw4.size
   try replace hown := own_later hown mw4
   try replace hsB := Nat.le_trans hsB mw4.size
   refine s_callD rfl rfl rfl (by kernel_rfl) rfl (fun wc lc => c_add (hu.kp) (h1.kp) (by decide) (by decide)) ?_
   rintro v w5 u5 h2 lw5 mw5
   try replace hown := own_later hown lw5
   try replace hsB := Nat.le_trans hsB lw5.size
   try replace hown := own_later hown mw5
   try replace hsB := Nat.le_trans hsB mw5.size
   refine s_callD rfl rfl rfl (by kernel_rfl) rfl (fun wc lc => rsplit_any (h2.kp) (by decide)) ?_
   rintro v w6 u6 rfl lw6 mw6
   try replace hown := own_later hown lw6
   try replace hsB := Nat.le_trans hsB lw6.size
   try replace hown := own_later hown mw6
   try replace hsB := Nat.le_trans hsB mw6.size
   rw [hB]
   rw [e1, e2, e3]
   refine sQ 3 ?_
   refine sS (fun w7 sw7 vw7 => ?_)
   try replace hsB := Nat.le_trans hsB (Nat.le_of_eq sw7.size.symm)
   try replace hown := own_sto hown sw7 nO6
   refine sZ 1 ?_
   refine Wp.seq ?_
   refine qZ ?_
   refine Wp.condF rfl rfl ?_
   refine Wp.skip ?_
   refine qZ ?_
   refine qQ 2 ?_
   refine aM (-9223372036854775808) 9223372036854775807 ?_
   refine sQ 2 ?_
   refine sB ?_
   refine sO (fun bk8 w8 kb8 lw8 => ?_)
   try have nO9 := own_ne hown (.inr kb8)
   try replace hown := own_later hown lw8
   try replace hsB := Nat.le_trans hsB lw8.size
   refine sS (fun w9 sw9 vw9 => ?_)
   try replace hsB := Nat.le_trans hsB (Nat.le_of_eq sw9.size.symm)
   try replace hown := own_sto hown sw9 nO9
   refine vOrd_nil ?_
   refine Wp.seq ?_
   refine Wp.seq ?_
   refine Wp.old (fun lo => ?_)
   refine wQ 2 ?_
   refine sT (r15tai_any t hb (hv.later lo) (d := (D - 1)) (s := 86400) (a := A) ⟨by omega, by omega⟩ ⟨by omega, by omega⟩ ⟨by omega, by omega⟩ true hJ' hK') ?_
   rintro v w10 ⟨tb10, ta10, tl10, tc10, rfl, -⟩ lw10
   try replace hown := own_later hown lw10
   try replace hsB := Nat.le_trans hsB lw10.size
   rw [hE1]
   refine sQ 3 ?_
   refine sO (fun bk11 w11 kb11 lw11 => ?_)
   try have nO10 := own_ne hown (.inr kb11)
   try replace hown := own_later hown lw11
   try replace hsB := Nat.le_trans hsB lw11.size
   refine sS (fun w12 sw12 vw12 => ?_)
   try replace hsB := Nat.le_trans hsB (Nat.le_of_eq sw12.size.symm)
   try replace hown := own_sto hown sw12 nO10
   refine sZ 1 ?_
   refine qQ 2 ?_
   refine p_eql rfl rfl rfl rfl rfl (fun h38 => ?_) (fun h38 => ?_)
   ·refine sQ 2 ?_
    refine f_eql rfl rfl rfl rfl rfl (by omega) ?_
    refine sZ 1 ?_
    refine Wp.condF rfl rfl ?_
    refine Wp.skip ?_
    refine Wp.seq ?_
    refine Wp.old (fun lo => ?_)
    refine wQ 2 ?_
    refine sT (r15tai_any t hb (hv.later lo) (d := D) (s := S) (a := A) ⟨by omega, by omega⟩ ⟨by omega, by omega⟩ ⟨by omega, by omega⟩ true hJ hK) ?_
    rintro v w13 ⟨tb13, ta13, tl13, tc13, rfl, -⟩ lw13
    try replace hown := own_later hown lw13
    try replace hsB := Nat.le_trans hsB lw13.size
    rw [hE2]
    refine sQ 3 ?_
    refine sO (fun bk14 w14 kb14 lw14 => ?_)
    try have nO12 := own_ne hown (.inr kb14)
    try replace hown := own_later hown lw14
    try replace hsB := Nat.le_trans hsB lw14.size
    refine sS (fun w15 sw15 vw15 => ?_)
    try replace hsB := Nat.le_trans hsB (Nat.le_of_eq sw15.size.symm)
    try replace hown := own_sto hown sw15 nO12
    refine sZ 1 ?_
    refine Wp.seq ?_
    refine qQ 1 ?_
    refine t_eql rfl rfl rfl rfl rfl (by omega) ?_
    refine vOrd_nil ?_
    refine Wp.condT rfl rfl ?_
    refine Wp.old (fun lo11 => ?_)
    refine wQ 2 ?_
    refine s_bs (e := 23) (cs := [.int .i64 D, .int .i64 S, .int .i64 A]) rfl rfl rfl (fun _ => by kernel_rfl) ?_
    intro c2 wq2 hc2 lq2 hrow2
    try replace hown := own_later hown lq2
    refine x_append (base := w.heap.size) (sz := 3) (bs := 24) (n := 0) (m := 1) (xs := []) rfl rfl rfl rfl rfl rfl rfl rfl rfl rfl rfl (by decide) ⟨rfl, .inl ⟨rfl, rfl⟩⟩ hrow2 rfl rfl (by omega) (by omega) (by have := lq2.size; have := lo11.size; omega) (Nat.le_refl _) (fun h b cs e q => by cases q) ?_
    intro v11 w11a hown11 gr11
    have hown := hown11
    clear hown11
    obtain ⟨ea, ec, rfl⟩ := own_sliceK hown
    refine sZ 1 ?_
    refine Wp.seq ?_
    refine qQ 1 ?_
    refine x_len rfl rfl rfl rfl rfl ?_
    refine f_eql rfl rfl rfl rfl rfl (by omega) ?_
    refine vOrd_nil ?_
    refine Wp.condF rfl rfl ?_
    refine Wp.skip ?_
    refine qZ ?_
    refine Wp.ret ⟨.inr rfl, fun lW => ⟨_, ⟨_, _, res_tmp (P := Tryz.prog) rfl rfl, res_tmp (P := Tryz.prog) rfl rfl, rfl⟩, _, rfl, ?_, lW⟩⟩
    clear lW
    exact ⟨_, _, rfl, Nat.le_refl _, hown⟩
   ·refine sZ 4 ?_
    refine Wp.condF rfl rfl ?_
    refine Wp.skip ?_
    refine Wp.seq ?_
    refine Wp.old (fun lo => ?_)
    refine wQ 2 ?_
    refine sT (r15tai_any t hb (hv.later lo) (d := D) (s := S) (a := A) ⟨by omega, by omega⟩ ⟨by omega, by omega⟩ ⟨by omega, by omega⟩ true hJ hK) ?_
    rintro v w24 ⟨tb24, ta24, tl24, tc24, rfl, -⟩ lw24
    try replace hown := own_later hown lw24
    try replace hsB := Nat.le_trans hsB lw24.size
    rw [hE2]
    refine sQ 3 ?_
    refine sO (fun bk25 w25 kb25 lw25 => ?_)
    try have nO12 := own_ne hown (.inr kb25)
    try replace hown := own_later hown lw25
    try replace hsB := Nat.le_trans hsB lw25.size
    refine sS (fun w26 sw26 vw26 => ?_)
    try replace hsB := Nat.le_trans hsB (Nat.le_of_eq sw26.size.symm)
    try replace hown := own_sto hown sw26 nO12
    refine sZ 1 ?_
    refine Wp.seq ?_
    refine qQ 1 ?_
    refine t_eql rfl rfl rfl rfl rfl (by omega) ?_
    refine vOrd_nil ?_
    refine Wp.condT rfl rfl ?_
    refine Wp.old (fun lo11 => ?_)
    refine wQ 2 ?_
    refine s_bs (e := 23) (cs := [.int .i64 D, .int .i64 S, .int .i64 A]) rfl rfl rfl (fun _ => by kernel_rfl) ?_
    intro c2 wq2 hc2 lq2 hrow2
    try replace hown := own_later hown lq2
    refine x_append (base := w.heap.size) (sz := 3) (bs := 24) (n := 0) (m := 1) (xs := []) rfl rfl rfl rfl rfl rfl rfl rfl rfl rfl rfl (by decide) ⟨rfl, .inl ⟨rfl, rfl⟩⟩ hrow2 rfl rfl (by omega) (by omega) (by have := lq2.size; have := lo11.size; omega) (Nat.le_refl _) (fun h b cs e q => by cases q) ?_
    intro v11 w11a hown11 gr11
    have hown := hown11
    clear hown11
    obtain ⟨ea, ec, rfl⟩ := own_sliceK hown
    refine sZ 1 ?_
    refine Wp.seq ?_
    refine qQ 1 ?_
    refine x_len rfl rfl rfl rfl rfl ?_
    refine f_eql rfl rfl rfl rfl rfl (by omega) ?_
    refine vOrd_nil ?_
    refine Wp.condF rfl rfl ?_
    refine Wp.skip ?_
    refine qZ ?_
    refine Wp.ret ⟨.inr rfl, fun lW => ⟨_, ⟨_, _, res_tmp (P := Tryz.prog) rfl rfl, res_tmp (P := Tryz.prog) rfl rfl, rfl⟩, _, rfl, ?_, lW⟩⟩
    clear lW
    exact ⟨_, _, rfl, Nat.le_refl _, hown⟩
 | true =>
  cases q with
  | false =>
   rw [Bool.and_eq_true, decide_eq_true_eq, decide_eq_true_eq] at hp
   have hq := of_decide_eq_false hq
   refine calls_Wp (args := [_, _]) (n := 64) Tryz.func19 rfl rfl (by simp) ?_
   refine Wp.seq ?_
   refine wR [0, 1, 2, 3] ?_
   refine sE (fun bk1 w1 kb1 lw1 => ?_)
   try have nO2 := own_ne hown (.inr kb1)
   try replace hown := own_later hown lw1
   try replace hsB := Nat.le_trans hsB lw1.size
   refine sE (fun bk2 w2 kb2 lw2 => ?_)
   try have nO3 := own_ne hown (.inr kb2)
   try replace hown := own_later hown lw2
   try replace hsB := Nat.le_trans hsB lw2.size
   refine sZ 2 ?_
   refine Wp.seq ?_
   refine wD [0, 1, 8, 2, 3, 4, 5, 6, 7, 9, 10] [262, 257, 255, 0, 0, 0, 0, 447, 895, 0, 0] (fun | 2 => IsBig 17 (cnt 40587 0 0) | 3 => IsBig 18 (ulZ z) | 4 => fun v _ => v = .tuple #[.agg #[.int .i64 (splD (ulZ z)), .int .i64 (splS (ulZ z)), .int .i64 (splA (ulZ z))], .bool (inB (dayZ (ulZ z)))] | _ => fun _ _ => True) (fun wd ld => ?_)
   try replace hown := own_later hown ld
   try replace hsB := Nat.le_trans hsB ld.size
   refine sL ?_
   refine sB ?_
   refine sO (fun bk3 w3 kb3 lw3 => ?_)
   try have nO6 := own_ne hown (.inr kb3)
   try replace hown := own_later hown lw3
   try replace hsB := Nat.le_trans hsB lw3.size
   refine sD (fun wc lc => rjoin_any (d := 40587) (s := 0) (a := 0) ⟨by decide, by decide⟩ ⟨by decide, by decide⟩ ⟨by decide, by decide⟩ wc) ?_
   rintro v w4 u4 h1 lw4 mw4
   try replace hown := own_later hown lw4
   try replace hsB := Nat.le_trans hsB lw4.size
   try replace hown := own_later hown mw4
   try replace hsB := Nat.le_trans hsB mw4.size
   refine s_callD rfl rfl rfl (by kernel_rfl) rfl (fun wc lc => c_add (hu.kp) (h1.kp) (by decide) (by decide)) ?_
   rintro v w5 u5 h2 lw5 mw5
   try replace hown := own_later hown lw5
   try replace hsB := Nat.le_trans hsB lw5.size
   try replace hown := own_later hown mw5
   try replace hsB := Nat.le_trans hsB mw5.size
   refine s_callD rfl rfl rfl (by kernel_rfl) rfl (fun wc lc => rsplit_any (h2.kp) (by decide)) ?_
   rintro v w6 u6 rfl lw6 mw6
   try replace hown := own_later hown lw6
   try replace hsB := Nat.le_trans hsB lw6.size
   try replace hown := own_later hown mw6
   try replace hsB := Nat.le_trans hsB mw6.size
   rw [hB]
   rw [e1, e2, e3]
   refine sQ 3 ?_
   refine sS (fun w7 sw7 vw7 => ?_)
   try replace hsB := Nat.le_trans hsB (Nat.le_of_eq sw7.size.symm)
   try replace hown := own_sto hown sw7 nO6
   refine sZ 1 ?_
   refine Wp.seq ?_
   refine qZ ?_
   refine Wp.condF rfl rfl ?_
   refine Wp.skip ?_
   refine qZ ?_
   refine qQ 2 ?_
   refine aM (-9223372036854775808) 9223372036854775807 ?_
   refine sQ 2 ?_
   refine sB ?_
   refine sO (fun bk8 w8 kb8 lw8 => ?_)
   try have nO9 := own_ne hown (.inr kb8)
   try replace hown := own_later hown lw8
   try replace hsB := Nat.le_trans hsB lw8.size
   refine sS (fun w9 sw9 vw9 => ?_)
   try replace hsB := Nat.le_trans hsB (Nat.le_of_eq sw9.size.symm)
   try replace hown := own_sto hown sw9 nO9
   refine vOrd_nil ?_
   refine Wp.seq ?_
   refine Wp.seq ?_
   refine Wp.old (fun lo => ?_)
   refine wQ 2 ?_
   refine sT (r15tai_any t hb (hv.later lo) (d := (D - 1)) (s := 86400) (a := A) ⟨by omega, by omega⟩ ⟨by omega, by omega⟩ ⟨by omega, by omega⟩ true hJ' hK') ?_
   rintro v w10 ⟨tb10, ta10, tl10, tc10, rfl, -⟩ lw10
   try replace hown := own_later hown lw10
   try replace hsB := Nat.le_trans hsB lw10.size
   rw [hE1]
   refine sQ 3 ?_
   refine sO (fun bk11 w11 kb11 lw11 => ?_)
   try have nO10 := own_ne hown (.inr kb11)
   try replace hown := own_later hown lw11
   try replace hsB := Nat.le_trans hsB lw11.size
   refine sS (fun w12 sw12 vw12 => ?_)
   try replace hsB := Nat.le_trans hsB (Nat.le_of_eq sw12.size.symm)
   try replace hown := own_sto hown sw12 nO10
   refine sZ 1 ?_
   refine qQ 2 ?_
   refine t_eql rfl rfl rfl rfl rfl (by omega) ?_
   refine sQ 2 ?_
   refine t_eql rfl rfl rfl rfl rfl (by omega) ?_
   refine sZ 1 ?_
   refine Wp.condT rfl rfl ?_
   refine Wp.var (h := 2) rfl (fun v2 => ?_)
   have q2 := v2.lt
   refine Wp.var (h := 3) rfl (fun v3 => ?_)
   have q3 := v3.lt
   refine Wp.var (h := 6) rfl (fun v6 => ?_)
   have q6 := v6.lt
   refine Wp.var (h := 9) rfl (fun v9 => ?_)
   have q9 := v9.lt
   refine Wp.var (h := 10) rfl (fun v10 => ?_)
   have q10 := v10.lt
   refine Wp.old (fun lo8 => ?_)
   obtain ⟨B0, hB0, hw0⟩ := lo8.top
   rw [← hB0] at q2 q3 q6 q9 q10
   refine wQ 2 ?_
   refine s_bs (e := 23) (cs := [.int .i64 (D - 1), .int .i64 86400, .int .i64 A]) rfl rfl rfl (fun _ => by kernel_rfl) ?_
   intro c1 wq1 hc1 lq1 hrow1
   try replace hown := own_later hown lq1
   refine x_append (base := B0) (sz := 3) (bs := 24) (n := 0) (m := 1) (xs := []) rfl rfl rfl rfl rfl rfl rfl rfl rfl rfl rfl (by decide) ⟨rfl, .inl ⟨rfl, rfl⟩⟩ hrow1 rfl rfl (by omega) (by omega) (by have := lq1.size; omega) hw0 (fun h b cs e q => by cases q) ?_
   intro v8 w8a hown8 gr8
   have hown := hown8
   clear hown8
   obtain ⟨ea, ec, rfl⟩ := own_sliceK hown
   have hsB : B0 ≤ w8a.heap.size := by have := lq1.size; have := gr8.size; omega
   refine sZ 1 ?_
   refine Wp.seq ?_
   refine Wp.old (fun lo => ?_)
   refine wQ 2 ?_
   refine sT (r15tai_any t hb (hv.later lo) (d := D) (s := S) (a := A) ⟨by omega, by omega⟩ ⟨by omega, by omega⟩ ⟨by omega, by omega⟩ true hJ hK) ?_
   rintro v w22 ⟨tb22, ta22, tl22, tc22, rfl, -⟩ lw22
   try replace hown := own_later hown lw22
   try replace hsB := Nat.le_trans hsB lw22.size
   rw [hE2]
   refine sQ 3 ?_
   refine sO (fun bk23 w23 kb23 lw23 => ?_)
   try have nO12 := own_ne hown (.inr kb23)
   try replace hown := own_later hown lw23
   try replace hsB := Nat.le_trans hsB lw23.size
   refine sS (fun w24 sw24 vw24 => ?_)
   try replace hsB := Nat.le_trans hsB (Nat.le_of_eq sw24.size.symm)
   try replace hown := own_sto hown sw24 nO12
   refine sZ 1 ?_
   refine Wp.seq ?_
   refine qQ 1 ?_
   refine f_eql rfl rfl rfl rfl rfl (by omega) ?_
   refine vOrd_nil ?_
   refine Wp.condF rfl rfl ?_
   refine Wp.skip ?_
   refine Wp.seq ?_
   refine qQ 1 ?_
   refine x_len rfl rfl rfl rfl rfl ?_
   refine f_eql rfl rfl rfl rfl rfl (by omega) ?_
   refine vOrd_nil ?_
   refine Wp.condF rfl rfl ?_
   refine Wp.skip ?_
   refine qZ ?_
   refine Wp.ret ⟨.inr rfl, fun lW => ⟨_, ⟨_, _, res_tmp (P := Tryz.prog) rfl rfl, res_tmp (P := Tryz.prog) rfl rfl, rfl⟩, _, rfl, ?_, lW⟩⟩
   clear lW
   exact ⟨_, B0, rfl, hw0, hown⟩
  | true =>
   rw [Bool.and_eq_true, decide_eq_true_eq, decide_eq_true_eq] at hp
   have hq := of_decide_eq_true hq
   refine calls_Wp (args := [_, _]) (n := 64) Tryz.func19 rfl rfl (by simp) ?_
   refine Wp.seq ?_
   refine wR [0, 1, 2, 3] ?_
   refine sE (fun bk1 w1 kb1 lw1 => ?_)
   try have nO2 := own_ne hown (.inr kb1)
   try replace hown := own_later hown lw1
   try replace hsB := Nat.le_trans hsB lw1.size
   refine sE (fun bk2 w2 kb2 lw2 => ?_)
   try have nO3 := own_ne hown (.inr kb2)
   try replace hown := own_later hown lw2
   try replace hsB := Nat.le_trans hsB lw2.size
   refine sZ 2 ?_
   refine Wp.seq ?_
   refine wD [0, 1, 8, 2, 3, 4, 5, 6, 7, 9, 10] [262, 257, 255, 0, 0, 0, 0, 447, 895, 0, 0] (fun | 2 => IsBig 17 (cnt 40587 0 0) | 3 => IsBig 18 (ulZ z) | 4 => fun v _ => v = .tuple #[.agg #[.int .i64 (splD (ulZ z)), .int .i64 (splS (ulZ z)), .int .i64 (splA (ulZ z))], .bool (inB (dayZ (ulZ z)))] | _ => fun _ _ => True) (fun wd ld => ?_)
   try replace hown := own_later hown ld
   try replace hsB := Nat.le_trans hsB ld.size
   refine sL ?_
   refine sB ?_
   refine sO (fun bk3 w3 kb3 lw3 => ?_)
   try have nO6 := own_ne hown (.inr kb3)
   try replace hown := own_later hown lw3
   try replace hsB := Nat.le_trans hsB lw3.size
   refine sD (fun wc lc => rjoin_any (d := 40587) (s := 0) (a := 0) ⟨by decide, by decide⟩ ⟨by decide, by decide⟩ ⟨by decide, by decide⟩ wc) ?_
   rintro v w4 u4 h1 lw4 mw4
   try replace hown := own_later hown lw4
   try replace hsB := Nat.le_trans hsB lw4.size
   try replace hown := own_later hown mw4
   try replace hsB := Nat.le_trans hsB mw4.size
   refine s_callD rfl rfl rfl (by kernel_rfl) rfl (fun wc lc => c_add (hu.kp) (h1.kp) (by decide) (by decide)) ?_
   rintro v w5 u5 h2 lw5 mw5
   try replace hown := own_later hown lw5
   try replace hsB := Nat.le_trans hsB lw5.size
   try replace hown := own_later hown mw5
   try replace hsB := Nat.le_trans hsB mw5.size
   refine s_callD rfl rfl rfl (by kernel_rfl) rfl (fun wc lc => rsplit_any (h2.kp) (by decide)) ?_
   rintro v w6 u6 rfl lw6 mw6
   try replace hown := own_later hown lw6
   try replace hsB := Nat.le_trans hsB lw6.size
   try replace hown := own_later hown mw6
   try replace hsB := Nat.le_trans hsB mw6.size
   rw [hB]
   rw [e1, e2, e3]
   refine sQ 3 ?_
   refine sS (fun w7 sw7 vw7 => ?_)
   try replace hsB := Nat.le_trans hsB (Nat.le_of_eq sw7.size.symm)
   try replace hown := own_sto hown sw7 nO6
   refine sZ 1 ?_
   refine Wp.seq ?_
   refine qZ ?_
   refine Wp.condF rfl rfl ?_
   refine Wp.skip ?_
   refine qZ ?_
   refine qQ 2 ?_
   refine aM (-9223372036854775808) 9223372036854775807 ?_
   refine sQ 2 ?_
   refine sB ?_
   refine sO (fun bk8 w8 kb8 lw8 => ?_)
   try have nO9 := own_ne hown (.inr kb8)
   try replace hown := own_later hown lw8
   try replace hsB := Nat.le_trans hsB lw8.size
   refine sS (fun w9 sw9 vw9 => ?_)
   try replace hsB := Nat.le_trans hsB (Nat.le_of_eq sw9.size.symm)
   try replace hown := own_sto hown sw9 nO9
   refine vOrd_nil ?_
   refine Wp.seq ?_
   refine Wp.seq ?_
   refine Wp.old (fun lo => ?_)
   refine wQ 2 ?_
   refine sT (r15tai_any t hb (hv.later lo) (d := (D - 1)) (s := 86400) (a := A) ⟨by omega, by omega⟩ ⟨by omega, by omega⟩ ⟨by omega, by omega⟩ true hJ' hK') ?_
   rintro v w10 ⟨tb10, ta10, tl10, tc10, rfl, -⟩ lw10
   try replace hown := own_later hown lw10
   try replace hsB := Nat.le_trans hsB lw10.size
   rw [hE1]
   refine sQ 3 ?_
   refine sO (fun bk11 w11 kb11 lw11 => ?_)
   try have nO10 := own_ne hown (.inr kb11)
   try replace hown := own_later hown lw11
   try replace hsB := Nat.le_trans hsB lw11.size
   refine sS (fun w12 sw12 vw12 => ?_)
   try replace hsB := Nat.le_trans hsB (Nat.le_of_eq sw12.size.symm)
   try replace hown := own_sto hown sw12 nO10
   refine sZ 1 ?_
   refine qQ 2 ?_
   refine t_eql rfl rfl rfl rfl rfl (by omega) ?_
   refine sQ 2 ?_
   refine t_eql rfl rfl rfl rfl rfl (by omega) ?_
   refine sZ 1 ?_
   refine Wp.condT rfl rfl ?_
   refine Wp.var (h := 2) rfl (fun v2 => ?_)
   have q2 := v2.lt
   refine Wp.var (h := 3) rfl (fun v3 => ?_)
   have q3 := v3.lt
   refine Wp.var (h := 6) rfl (fun v6 => ?_)
   have q6 := v6.lt
   refine Wp.var (h := 9) rfl (fun v9 => ?_)
   have q9 := v9.lt
   refine Wp.var (h := 10) rfl (fun v10 => ?_)
   have q10 := v10.lt
   refine Wp.old (fun lo8 => ?_)
   obtain ⟨B0, hB0, hw0⟩ := lo8.top
   rw [← hB0] at q2 q3 q6 q9 q10
   refine wQ 2 ?_
   refine s_bs (e := 23) (cs := [.int .i64 (D - 1), .int .i64 86400, .int .i64 A]) rfl rfl rfl (fun _ => by kernel_rfl) ?_
   intro c1 wq1 hc1 lq1 hrow1
   try replace hown := own_later hown lq1
   refine x_append (base := B0) (sz := 3) (bs := 24) (n := 0) (m := 1) (xs := []) rfl rfl rfl rfl rfl rfl rfl rfl rfl rfl rfl (by decide) ⟨rfl, .inl ⟨rfl, rfl⟩⟩ hrow1 rfl rfl (by omega) (by omega) (by have := lq1.size; omega) hw0 (fun h b cs e q => by cases q) ?_
   intro v8 w8a hown8 gr8
   have hown := hown8
   clear hown8
   obtain ⟨ea, ec, rfl⟩ := own_sliceK hown
   have hsB : B0 ≤ w8a.heap.size := by have := lq1.size; have := gr8.size; omega
   refine sZ 1 ?_
   refine Wp.seq ?_
   refine Wp.old (fun lo => ?_)
   refine wQ 2 ?_
   refine sT (r15tai_any t hb (hv.later lo) (d := D) (s := S) (a := A) ⟨by omega, by omega⟩ ⟨by omega, by omega⟩ ⟨by omega, by omega⟩ true hJ hK) ?_
   rintro v w22 ⟨tb22, ta22, tl22, tc22, rfl, -⟩ lw22
   try replace hown := own_later hown lw22
   try replace hsB := Nat.le_trans hsB lw22.size
   rw [hE2]
   refine sQ 3 ?_
   refine sO (fun bk23 w23 kb23 lw23 => ?_)
   try have nO12 := own_ne hown (.inr kb23)
   try replace hown := own_later hown lw23
   try replace hsB := Nat.le_trans hsB lw23.size
   refine sS (fun w24 sw24 vw24 => ?_)
   try replace hsB := Nat.le_trans hsB (Nat.le_of_eq sw24.size.symm)
   try replace hown := own_sto hown sw24 nO12
   refine sZ 1 ?_
   refine Wp.seq ?_
   refine qQ 1 ?_
   refine t_eql rfl rfl rfl rfl rfl (by omega) ?_
   refine vOrd_nil ?_
   refine Wp.condT rfl rfl ?_
   refine wQ 2 ?_
   refine s_bs (e := 23) (cs := [.int .i64 D, .int .i64 S, .int .i64 A]) rfl rfl rfl (fun _ => by kernel_rfl) ?_
   intro c2 wq2 hc2 lq2 hrow2
   try replace hown := own_later hown lq2
   refine x_append (base := B0) (sz := 3) (bs := 24) (n := 1) (m := 1) (xs := ulC true false D S A) rfl rfl rfl rfl rfl rfl rfl rfl rfl rfl rfl (by decide) hown hrow2 rfl rfl (by omega) (by omega) (by have := lq2.size; omega) hw0 (by repeat (first | exact AllMem.args | refine AllMem.put ?_ | refine AllMem.new ?_ (by first | exact nO12 | exact own_ne hown (.inl (by omega))) | refine AllMem.set ?_ (by first | exact nO12 | exact own_ne hown (.inl (by omega))))) ?_
   intro v11 w11a hown11 gr11
   clear hown
   have hown := hown11
   clear hown11
   obtain ⟨ea, ec, rfl⟩ := own_sliceK hown
   refine sZ 1 ?_
   refine Wp.seq ?_
   refine qQ 1 ?_
   refine x_len rfl rfl rfl rfl rfl ?_
   refine f_eql rfl rfl rfl rfl rfl (by omega) ?_
   refine vOrd_nil ?_
   refine Wp.condF rfl rfl ?_
   refine Wp.skip ?_
   refine qZ ?_
   refine Wp.ret ⟨.inr rfl, fun lW => ⟨_, ⟨_, _, res_tmp (P := Tryz.prog) rfl rfl, res_tmp (P := Tryz.prog) rfl rfl, rfl⟩, _, rfl, ?_, lW⟩⟩
   clear lW
   exact ⟨_, B0, rfl, hw0, hown⟩
end Go.Proofs.YthihioakjpmnbaaGreat
