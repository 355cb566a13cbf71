/-
 The contracts of scale.To and scale.From (P16.1, P16.2). No conditions.
-/
import Derived.Test.YtjhapfogfhmniaaScA
import Derived.Test.YtjhapfogfhmniaaDayA
namespace Go.Proofs.Ytjhapfogfhmniaa
open Go.RowKit
set_option maxRecDepth 100000

theorem szero_no {n : Int} (h : isSc n = false) {w : World} : Calls Try.prog 16 #[.int .i64 n] w fun e w' => ∃ r, e = .returned r ∧ r = .tuple #[.agg #[.int .i64 0, .int .u64 0], .int .i64 1] ∧ Below w.heap.size w w' := by
 rw [isSc_no] at h
 refine calls_Wp (args := [_]) (n := 30) Try.func16 rfl rfl (by simp) ?_
 refine Wp.seq ?_
 refine wR [0, 1] ?_
 refine sO (fun bk1 w1 kb1 lw1 => ?_)
 refine sZ 1 ?_
 refine Wp.seq ?_
 refine qZ ?_
 refine Wp.block ?_
 refine Wp.seq ?_
 refine wR [0, 1] ?_
 refine f_eql rfl rfl rfl rfl rfl (by omega) ?_
 refine sZ 1 ?_
 refine Wp.condF rfl rfl ?_
 refine Wp.seq ?_
 refine wR [0, 1] ?_
 refine f_eql rfl rfl rfl rfl rfl (by omega) ?_
 refine sZ 1 ?_
 refine Wp.condF rfl rfl ?_
 refine Wp.seq ?_
 refine wR [0, 1] ?_
 refine f_eql rfl rfl rfl rfl rfl (by omega) ?_
 refine sZ 1 ?_
 refine Wp.condF rfl rfl ?_
 refine Wp.seq ?_
 refine wR [0, 1] ?_
 refine f_eql rfl rfl rfl rfl rfl (by omega) ?_
 refine sZ 1 ?_
 refine Wp.condF rfl rfl ?_
 refine Wp.skip ?_
 refine Wp.seq ?_
 refine wR [0, 1, 2] ?_
 refine sB ?_
 refine sS (fun w2 sw2 vw2 => ?_)
 refine sZ 1 ?_
 refine Wp.ret ⟨.inr rfl, fun lW => ⟨_, ⟨_, _, res_cell rfl rfl rfl rfl, res_tmp (P := Try.prog) rfl rfl, rfl⟩, _, rfl, ?_, lW⟩⟩
 clear lW
 rfl
theorem szero_yes {n : Int} (h : isSc n = true) {w : World} : Calls Try.prog 16 #[.int .i64 n] w fun e w' => ∃ r, e = .returned r ∧ (∃ u, r = .tuple #[u, .int .i64 0] ∧ IsW (zerZ n) u) ∧ Below w.heap.size w w' := by
 rw [isSc_iff] at h
 refine calls_Wp (args := [_]) (n := 30) Try.func16 rfl rfl (by simp) ?_
 refine Wp.seq ?_
 refine wR [0, 1] ?_
 refine sO (fun bk1 w1 kb1 lw1 => ?_)
 refine sZ 1 ?_
 refine Wp.seq ?_
 refine qZ ?_
 refine Wp.block ?_
 refine Wp.seq ?_
 refine wR [0, 1] ?_
 refine p_eql rfl rfl rfl rfl rfl (fun h6 => ?_) (fun h6 => ?_)
 ·refine sZ 1 ?_
  refine Wp.condT rfl rfl ?_
  refine Wp.seq ?_
  refine wR [0, 1, 2, 3, 4, 5] ?_
  refine sB ?_
  refine sT (djoin_any (d := 36204) (s := 0) (a := 0) ⟨by decide, by decide⟩ ⟨by decide, by decide⟩ ⟨by decide, by decide⟩ _) ?_
  rintro v w2 ⟨ju, rfl, jh, jl, rfl, hj⟩ lw2
  rw [(lab_ok (by decide) (by decide)).1]
  rw [(lab_ok (by decide) (by decide)).2] at hj
  replace hj := (show WideIs jh jl (zerZ 1) from hj)
  rw [show (1 : Int) = n by omega] at hj
  refine sQ 2 ?_
  refine sS (fun w3 sw3 vw3 => ?_)
  refine sZ 1 ?_
  refine Wp.ret ⟨.inr rfl, fun lW => ⟨_, ⟨_, _, res_cell rfl rfl rfl rfl, res_tmp (P := Try.prog) rfl rfl, rfl⟩, _, rfl, ?_, lW⟩⟩
  clear lW
  exact ⟨_, rfl, _, _, rfl, hj⟩
 ·refine sZ 1 ?_
  refine Wp.condF rfl rfl ?_
  refine Wp.seq ?_
  refine wR [0, 1] ?_
  refine p_eql rfl rfl rfl rfl rfl (fun h12 => ?_) (fun h12 => ?_)
  ·refine sZ 1 ?_
   refine Wp.condT rfl rfl ?_
   refine Wp.seq ?_
   refine wR [0, 1, 2, 3, 4, 5] ?_
   refine sB ?_
   refine sT (djoin_any (d := 51544) (s := 43167) (a := 816000000000000000) ⟨by decide, by decide⟩ ⟨by decide, by decide⟩ ⟨by decide, by decide⟩ _) ?_
   rintro v w4 ⟨ju, rfl, jh, jl, rfl, hj⟩ lw4
   rw [(lab_ok (by decide) (by decide)).1]
   rw [(lab_ok (by decide) (by decide)).2] at hj
   replace hj := (show WideIs jh jl (zerZ 2) from hj)
   rw [show (2 : Int) = n by omega] at hj
   refine sQ 2 ?_
   refine sS (fun w5 sw5 vw5 => ?_)
   refine sZ 1 ?_
   refine Wp.ret ⟨.inr rfl, fun lW => ⟨_, ⟨_, _, res_cell rfl rfl rfl rfl, res_tmp (P := Try.prog) rfl rfl, rfl⟩, _, rfl, ?_, lW⟩⟩
   clear lW
   exact ⟨_, rfl, _, _, rfl, hj⟩
  ·refine sZ 1 ?_
   refine Wp.condF rfl rfl ?_
   refine Wp.seq ?_
   refine wR [0, 1] ?_
   refine p_eql rfl rfl rfl rfl rfl (fun h18 => ?_) (fun h18 => ?_)
   ·refine sZ 1 ?_
    refine Wp.condT rfl rfl ?_
    refine Wp.seq ?_
    refine wR [0, 1, 2, 3, 4, 5] ?_
    refine sB ?_
    refine sT (djoin_any (d := 44244) (s := 19) (a := 0) ⟨by decide, by decide⟩ ⟨by decide, by decide⟩ ⟨by decide, by decide⟩ _) ?_
    rintro v w6 ⟨ju, rfl, jh, jl, rfl, hj⟩ lw6
    rw [(lab_ok (by decide) (by decide)).1]
    rw [(lab_ok (by decide) (by decide)).2] at hj
    replace hj := (show WideIs jh jl (zerZ 3) from hj)
    rw [show (3 : Int) = n by omega] at hj
    refine sQ 2 ?_
    refine sS (fun w7 sw7 vw7 => ?_)
    refine sZ 1 ?_
    refine Wp.ret ⟨.inr rfl, fun lW => ⟨_, ⟨_, _, res_cell rfl rfl rfl rfl, res_tmp (P := Try.prog) rfl rfl, rfl⟩, _, rfl, ?_, lW⟩⟩
    clear lW
    exact ⟨_, rfl, _, _, rfl, hj⟩
   ·refine sZ 1 ?_
    refine Wp.condF rfl rfl ?_
    refine Wp.seq ?_
    refine wR [0, 1] ?_
    refine t_eql rfl rfl rfl rfl rfl (by omega) ?_
    refine sZ 1 ?_
    refine Wp.condT rfl rfl ?_
    refine Wp.seq ?_
    refine wR [0, 1, 2, 3, 4, 5] ?_
    refine sB ?_
    refine sT (djoin_any (d := 40587) (s := 0) (a := 0) ⟨by decide, by decide⟩ ⟨by decide, by decide⟩ ⟨by decide, by decide⟩ _) ?_
    rintro v w8 ⟨ju, rfl, jh, jl, rfl, hj⟩ lw8
    rw [(lab_ok (by decide) (by decide)).1]
    rw [(lab_ok (by decide) (by decide)).2] at hj
    replace hj := (show WideIs jh jl (zerZ 4) from hj)
    rw [show (4 : Int) = n by omega] at hj
    refine sQ 2 ?_
    refine sS (fun w9 sw9 vw9 => ?_)
    refine sZ 1 ?_
    refine Wp.ret ⟨.inr rfl, fun lW => ⟨_, ⟨_, _, res_cell rfl rfl rfl rfl, res_tmp (P := Try.prog) rfl rfl, rfl⟩, _, rfl, ?_, lW⟩⟩
    clear lW
    exact ⟨_, rfl, _, _, rfl, hj⟩
theorem sin_any {z : Int} {u : Value} (hu : IsW z u) {w : World} : Calls Try.prog 17 #[u] w fun e w' => ∃ r, e = .returned r ∧ r = .bool (inB (dayZ z)) ∧ Below w.heap.size w w' := by
 obtain ⟨uh, ul, rfl, hu'⟩ := id hu
 cases hi : inB (dayZ z) with
 | false =>
  refine calls_Wp (args := [_]) (n := 12) Try.func17 rfl rfl (by simp) ?_
  refine Wp.seq ?_
  refine wR [0, 1] ?_
  refine sE (fun bk1 w1 kb1 lw1 => ?_)
  refine sZ 1 ?_
  refine qQ 1 ?_
  refine sT (dsplit_any hu _) ?_
  rintro v w2 rfl lw2
  rw [splE_no hi]
  refine sQ 3 ?_
  refine sO (fun bk3 w3 kb3 lw3 => ?_)
  refine sS (fun w4 sw4 vw4 => ?_)
  refine sZ 1 ?_
  refine qQ 1 ?_
  refine f_eql rfl rfl rfl rfl rfl (by omega) ?_
  refine sZ 1 ?_
  refine Wp.ret ⟨.inr rfl, fun lW => ⟨_, res_tmp (P := Try.prog) rfl rfl, _, rfl, ?_, lW⟩⟩
  clear lW
  rfl
 | true =>
  refine calls_Wp (args := [_]) (n := 12) Try.func17 rfl rfl (by simp) ?_
  refine Wp.seq ?_
  refine wR [0, 1] ?_
  refine sE (fun bk1 w1 kb1 lw1 => ?_)
  refine sZ 1 ?_
  refine qQ 1 ?_
  refine sT (dsplit_any hu _) ?_
  rintro v w2 rfl lw2
  rw [splE_yes hi]
  refine sQ 3 ?_
  refine sO (fun bk3 w3 kb3 lw3 => ?_)
  refine sS (fun w4 sw4 vw4 => ?_)
  refine sZ 1 ?_
  refine qQ 1 ?_
  refine t_eql rfl rfl rfl rfl rfl (by omega) ?_
  refine sZ 1 ?_
  refine Wp.ret ⟨.inr rfl, fun lW => ⟨_, res_tmp (P := Try.prog) rfl rfl, _, rfl, ?_, lW⟩⟩
  clear lW
  rfl
theorem sto_any {n z : Int} {u : Value} (hu : IsW z u) {w : World} : Calls Try.prog 6 #[.int .i64 n, u] w fun e w' => ∃ r, e = .returned r ∧ (∃ v, r = .tuple #[v, .int .i64 (toE n z)] ∧ IsW (toZ n z) v) ∧ Below w.heap.size w w' := by
 obtain ⟨uh, ul, rfl, hu⟩ := hu
 cases hs : isSc n with
 | false =>
  obtain ⟨e1, e2⟩ := to_none (z := z) hs
  rw [e1, e2]
  refine calls_Wp (args := [_, _]) (n := 26) Try.func6 rfl rfl (by simp) ?_
  refine Wp.seq ?_
  refine wR [0, 1, 2] ?_
  refine sE (fun bk1 w1 kb1 lw1 => ?_)
  refine sO (fun bk2 w2 kb2 lw2 => ?_)
  refine sZ 1 ?_
  refine qQ 1 ?_
  refine sT (szero_no hs) ?_
  rintro v w3 rfl lw3
  refine sQ 3 ?_
  refine sO (fun bk4 w4 kb4 lw4 => ?_)
  refine sS (fun w5 sw5 vw5 => ?_)
  refine sZ 1 ?_
  refine Wp.seq ?_
  refine qQ 1 ?_
  refine t_neq rfl rfl rfl rfl rfl (by omega) ?_
  refine vOrd_nil ?_
  refine Wp.condT rfl rfl ?_
  refine Wp.seq ?_
  refine wR [0, 1, 2, 3] ?_
  refine sB ?_
  refine sM ?_
  refine sS (fun w6 sw6 vw6 => ?_)
  refine sZ 1 ?_
  refine Wp.ret ⟨.inr rfl, fun lW => ⟨_, ⟨_, _, res_cell rfl rfl rfl rfl, res_tmp (P := Try.prog) rfl rfl, rfl⟩, _, rfl, ?_, lW⟩⟩
  clear lW
  exact ⟨_, rfl, _, _, rfl, (by unfold WideIs; omega)⟩
 | true =>
  have hzi := zer_in n
  cases hi : inB (dayZ z) with
  | false =>
   obtain ⟨e1, e2⟩ := to_out hs hi
   rw [e1, e2]
   refine calls_Wp (args := [_, _]) (n := 26) Try.func6 rfl rfl (by simp) ?_
   refine Wp.seq ?_
   refine wR [0, 1, 2] ?_
   refine sE (fun bk1 w1 kb1 lw1 => ?_)
   refine sO (fun bk2 w2 kb2 lw2 => ?_)
   refine sZ 1 ?_
   refine qQ 1 ?_
   refine sT (szero_yes hs) ?_
   rintro v w3 ⟨zu, rfl, zh, zl, rfl, hz⟩ lw3
   refine sQ 3 ?_
   refine sO (fun bk4 w4 kb4 lw4 => ?_)
   refine sS (fun w5 sw5 vw5 => ?_)
   refine sZ 1 ?_
   refine Wp.seq ?_
   refine qQ 1 ?_
   refine f_neq rfl rfl rfl rfl rfl (by omega) ?_
   refine vOrd_nil ?_
   refine Wp.condF rfl rfl ?_
   refine Wp.skip ?_
   refine Wp.seq ?_
   refine qQ 1 ?_
   refine sT (sin_any ⟨_, _, rfl, hu⟩) ?_
   rintro v w6 rfl lw6
   rw [hi]
   refine sZ 1 ?_
   refine Wp.condT rfl rfl ?_
   refine Wp.seq ?_
   refine wR [0, 1, 2] ?_
   refine sB ?_
   refine sS (fun w7 sw7 vw7 => ?_)
   refine sZ 1 ?_
   refine Wp.ret ⟨.inr rfl, fun lW => ⟨_, ⟨_, _, res_cell rfl rfl rfl rfl, res_tmp (P := Try.prog) rfl rfl, rfl⟩, _, rfl, ?_, lW⟩⟩
   clear lW
   exact ⟨_, rfl, _, _, rfl, (by unfold WideIs; omega)⟩
  | true =>
   obtain ⟨e1, e2⟩ := to_ok hs hi
   rw [e1, e2]
   have hn := inB_near hi
   obtain ⟨f1, f2⟩ := fit_ok (z := z - zerZ n) (by omega) (by omega)
   refine calls_Wp (args := [_, _]) (n := 26) Try.func6 rfl rfl (by simp) ?_
   refine Wp.seq ?_
   refine wR [0, 1, 2] ?_
   refine sE (fun bk1 w1 kb1 lw1 => ?_)
   refine sO (fun bk2 w2 kb2 lw2 => ?_)
   refine sZ 1 ?_
   refine qQ 1 ?_
   refine sT (szero_yes hs) ?_
   rintro v w3 ⟨zu, rfl, zh, zl, rfl, hz⟩ lw3
   refine sQ 3 ?_
   refine sO (fun bk4 w4 kb4 lw4 => ?_)
   refine sS (fun w5 sw5 vw5 => ?_)
   refine sZ 1 ?_
   refine Wp.seq ?_
   refine qQ 1 ?_
   refine f_neq rfl rfl rfl rfl rfl (by omega) ?_
   refine vOrd_nil ?_
   refine Wp.condF rfl rfl ?_
   refine Wp.skip ?_
   refine Wp.seq ?_
   refine qQ 1 ?_
   refine sT (sin_any ⟨_, _, rfl, hu⟩) ?_
   rintro v w6 rfl lw6
   rw [hi]
   refine sZ 1 ?_
   refine Wp.condF rfl rfl ?_
   refine Wp.skip ?_
   refine qQ 2 ?_
   refine sT (c_wsub ⟨_, _, rfl, hu⟩ ⟨_, _, rfl, hz⟩ _) ?_
   rintro v w7 ⟨du, rfl, dh, dl, rfl, hd⟩ lw7
   rw [f2]
   rw [f1] at hd
   refine sQ 2 ?_
   refine sS (fun w8 sw8 vw8 => ?_)
   refine sZ 1 ?_
   refine Wp.ret ⟨.inr rfl, fun lW => ⟨_, ⟨_, _, res_cell rfl rfl rfl rfl, res_tmp (P := Try.prog) rfl rfl, rfl⟩, _, rfl, ?_, lW⟩⟩
   clear lW
   exact ⟨_, rfl, _, _, rfl, hd⟩
theorem sfrom_any {n z : Int} {u : Value} (hu : IsW z u) {w : World} : Calls Try.prog 13 #[.int .i64 n, u] w fun e w' => ∃ r, e = .returned r ∧ (∃ v, r = .tuple #[v, .int .i64 (frE n z)] ∧ IsW (frZ n z) v) ∧ Below w.heap.size w w' := by
 obtain ⟨uh, ul, rfl, hu⟩ := hu
 cases hs : isSc n with
 | false =>
  obtain ⟨e1, e2⟩ := fr_none (a := z) hs
  rw [e1, e2]
  refine calls_Wp (args := [_, _]) (n := 33) Try.func13 rfl rfl (by simp) ?_
  refine Wp.seq ?_
  refine wR [0, 1, 2] ?_
  refine sE (fun bk1 w1 kb1 lw1 => ?_)
  refine sO (fun bk2 w2 kb2 lw2 => ?_)
  refine sZ 1 ?_
  refine qQ 1 ?_
  refine sT (szero_no hs) ?_
  rintro v w3 rfl lw3
  refine sQ 3 ?_
  refine sO (fun bk4 w4 kb4 lw4 => ?_)
  refine sS (fun w5 sw5 vw5 => ?_)
  refine sZ 1 ?_
  refine Wp.seq ?_
  refine qQ 1 ?_
  refine t_neq rfl rfl rfl rfl rfl (by omega) ?_
  refine vOrd_nil ?_
  refine Wp.condT rfl rfl ?_
  refine Wp.seq ?_
  refine wR [0, 1, 2, 3] ?_
  refine sB ?_
  refine sM ?_
  refine sS (fun w6 sw6 vw6 => ?_)
  refine sZ 1 ?_
  refine Wp.ret ⟨.inr rfl, fun lW => ⟨_, ⟨_, _, res_cell rfl rfl rfl rfl, res_tmp (P := Try.prog) rfl rfl, rfl⟩, _, rfl, ?_, lW⟩⟩
  clear lW
  exact ⟨_, rfl, _, _, rfl, (by unfold WideIs; omega)⟩
 | true =>
  have hzi := zer_in n
  have hr := hu.range
  cases hi : inB (dayZ (z + zerZ n)) with
  | false =>
   obtain ⟨e1, e2⟩ := fr_out hs hi
   rw [e1, e2]
   obtain ⟨Y, hY⟩ : ∃ Y, z + zerZ n = Y := ⟨_, rfl⟩
   rw [hY] at hi
   cases hw : inW Y with
   | false =>
    obtain ⟨f1, f2⟩ : fitV Y = 0 ∧ fitE Y = 2 := ⟨by unfold fitV; rw [hw]; rfl, by unfold fitE; rw [hw]; rfl⟩
    refine calls_Wp (args := [_, _]) (n := 33) Try.func13 rfl rfl (by simp) ?_
    refine Wp.seq ?_
    refine wR [0, 1, 2] ?_
    refine sE (fun bk1 w1 kb1 lw1 => ?_)
    refine sO (fun bk2 w2 kb2 lw2 => ?_)
    refine sZ 1 ?_
    refine qQ 1 ?_
    refine sT (szero_yes hs) ?_
    rintro v w3 ⟨zu, rfl, zh, zl, rfl, hz⟩ lw3
    refine sQ 3 ?_
    refine sO (fun bk4 w4 kb4 lw4 => ?_)
    refine sS (fun w5 sw5 vw5 => ?_)
    refine sZ 1 ?_
    refine Wp.seq ?_
    refine qQ 1 ?_
    refine f_neq rfl rfl rfl rfl rfl (by omega) ?_
    refine vOrd_nil ?_
    refine Wp.condF rfl rfl ?_
    refine Wp.skip ?_
    refine qQ 2 ?_
    refine sT (c_wadd ⟨_, _, rfl, hu⟩ ⟨_, _, rfl, hz⟩ _) ?_
    rintro v w6 ⟨du, rfl, dh, dl, rfl, hd⟩ lw6
    rw [hY] at hd ⊢
    rw [f2]
    refine sQ 3 ?_
    refine sO (fun bk7 w7 kb7 lw7 => ?_)
    refine sS (fun w8 sw8 vw8 => ?_)
    refine sZ 1 ?_
    refine Wp.seq ?_
    refine qQ 1 ?_
    refine t_neq rfl rfl rfl rfl rfl (by omega) ?_
    refine sZ 5 ?_
    refine Wp.condT rfl rfl ?_
    refine Wp.seq ?_
    refine wR [0, 1, 2] ?_
    refine sB ?_
    refine sS (fun w9 sw9 vw9 => ?_)
    refine sZ 1 ?_
    refine Wp.ret ⟨.inr rfl, fun lW => ⟨_, ⟨_, _, res_cell rfl rfl rfl rfl, res_tmp (P := Try.prog) rfl rfl, rfl⟩, _, rfl, ?_, lW⟩⟩
    clear lW
    exact ⟨_, rfl, _, _, rfl, (by unfold WideIs; omega)⟩
   | true =>
    obtain ⟨f1, f2⟩ : fitV Y = Y ∧ fitE Y = 0 := ⟨by unfold fitV; rw [hw]; rfl, by unfold fitE; rw [hw]; rfl⟩
    refine calls_Wp (args := [_, _]) (n := 33) Try.func13 rfl rfl (by simp) ?_
    refine Wp.seq ?_
    refine wR [0, 1, 2] ?_
    refine sE (fun bk1 w1 kb1 lw1 => ?_)
    refine sO (fun bk2 w2 kb2 lw2 => ?_)
    refine sZ 1 ?_
    refine qQ 1 ?_
    refine sT (szero_yes hs) ?_
    rintro v w3 ⟨zu, rfl, zh, zl, rfl, hz⟩ lw3
    refine sQ 3 ?_
    refine sO (fun bk4 w4 kb4 lw4 => ?_)
    refine sS (fun w5 sw5 vw5 => ?_)
    refine sZ 1 ?_
    refine Wp.seq ?_
    refine qQ 1 ?_
    refine f_neq rfl rfl rfl rfl rfl (by omega) ?_
    refine vOrd_nil ?_
    refine Wp.condF rfl rfl ?_
    refine Wp.skip ?_
    refine qQ 2 ?_
    refine sT (c_wadd ⟨_, _, rfl, hu⟩ ⟨_, _, rfl, hz⟩ _) ?_
    rintro v w6 ⟨du, rfl, dh, dl, rfl, hd⟩ lw6
    rw [hY] at hd ⊢
    rw [f2]
    rw [f1] at hd
    refine sQ 3 ?_
    refine sO (fun bk7 w7 kb7 lw7 => ?_)
    refine sS (fun w8 sw8 vw8 => ?_)
    refine sZ 1 ?_
    refine Wp.seq ?_
    refine qQ 1 ?_
    refine f_neq rfl rfl rfl rfl rfl (by omega) ?_
    refine sQ 2 ?_
    refine sT (sin_any ⟨_, _, rfl, hd⟩) ?_
    rintro v w9 rfl lw9
    rw [hi]
    refine sZ 2 ?_
    refine Wp.condT rfl rfl ?_
    refine Wp.seq ?_
    refine wR [0, 1, 2] ?_
    refine sB ?_
    refine sS (fun w10 sw10 vw10 => ?_)
    refine sZ 1 ?_
    refine Wp.ret ⟨.inr rfl, fun lW => ⟨_, ⟨_, _, res_cell rfl rfl rfl rfl, res_tmp (P := Try.prog) rfl rfl, rfl⟩, _, rfl, ?_, lW⟩⟩
    clear lW
    exact ⟨_, rfl, _, _, rfl, (by unfold WideIs; omega)⟩
  | true =>
   obtain ⟨e1, e2⟩ := fr_ok hs hi
   rw [e1, e2]
   have hn := inB_near hi
   obtain ⟨f1, f2⟩ := fit_ok (z := z + zerZ n) (by omega) (by omega)
   refine calls_Wp (args := [_, _]) (n := 33) Try.func13 rfl rfl (by simp) ?_
   refine Wp.seq ?_
   refine wR [0, 1, 2] ?_
   refine sE (fun bk1 w1 kb1 lw1 => ?_)
   refine sO (fun bk2 w2 kb2 lw2 => ?_)
   refine sZ 1 ?_
   refine qQ 1 ?_
   refine sT (szero_yes hs) ?_
   rintro v w3 ⟨zu, rfl, zh, zl, rfl, hz⟩ lw3
   refine sQ 3 ?_
   refine sO (fun bk4 w4 kb4 lw4 => ?_)
   refine sS (fun w5 sw5 vw5 => ?_)
   refine sZ 1 ?_
   refine Wp.seq ?_
   refine qQ 1 ?_
   refine f_neq rfl rfl rfl rfl rfl (by omega) ?_
   refine vOrd_nil ?_
   refine Wp.condF rfl rfl ?_
   refine Wp.skip ?_
   refine qQ 2 ?_
   refine sT (c_wadd ⟨_, _, rfl, hu⟩ ⟨_, _, rfl, hz⟩ _) ?_
   rintro v w6 ⟨du, rfl, dh, dl, rfl, hd⟩ lw6
   rw [f2]
   rw [f1] at hd
   refine sQ 3 ?_
   refine sO (fun bk7 w7 kb7 lw7 => ?_)
   refine sS (fun w8 sw8 vw8 => ?_)
   refine sZ 1 ?_
   refine Wp.seq ?_
   refine qQ 1 ?_
   refine f_neq rfl rfl rfl rfl rfl (by omega) ?_
   refine sQ 2 ?_
   refine sT (sin_any ⟨_, _, rfl, hd⟩) ?_
   rintro v w9 rfl lw9
   rw [hi]
   refine sZ 2 ?_
   refine Wp.condF rfl rfl ?_
   refine Wp.skip ?_
   refine qQ 1 ?_
   refine sS (fun w10 sw10 vw10 => ?_)
   refine sZ 1 ?_
   refine Wp.ret ⟨.inr rfl, fun lW => ⟨_, ⟨_, _, res_cell rfl rfl rfl rfl, res_tmp (P := Try.prog) rfl rfl, rfl⟩, _, rfl, ?_, lW⟩⟩
   clear lW
   exact ⟨_, rfl, _, _, rfl, hd⟩
end Go.Proofs.Ytjhapfogfhmniaa
