/-
 Leap seconds: ask, and what asks. Of tables that may be; what is asked less than 1000000 times.
-/
import Derived.Test.YthihioakjpmnbaaGreatLpC
namespace Go.Proofs.YthihioakjpmnbaaGreat
open Go.RowKit
set_option maxRecDepth 100000

theorem check_yes {t : Tb} (hb : canBe t = true) (hu : I64 t.u) (he : I64 t.e) {v : Value} {w : World} (hv : EntAt w v t.es) : Calls Tryz.prog 56 #[tbV t v] w fun e w' => ∃ r, e = .returned r ∧ r = .tuple #[.int .i64 0, .int .i64 0] ∧ Below w.heap.size w w' := by
 have h := check_any t hu he hv
 rw [can_place hb, hb] at h
 exact h
theorem check_no {t : Tb} (hb : canBe t = false) (hu : I64 t.u) (he : I64 t.e) {v : Value} {w : World} (hv : EntAt w v t.es) : Calls Tryz.prog 56 #[tbV t v] w fun e w' => ∃ r, e = .returned r ∧ r = .tuple #[.int .i64 (place t : Int), .int .i64 10] ∧ Below w.heap.size w w' := by
 have h := check_any t hu he hv
 rw [hb] at h
 exact h
theorem new_yes (t : Tb) (hb : canBe t = true) (hu : I64 t.u) (he : I64 t.e) {a : Option Addr} {c0 : Nat} {w : World} (hv : EntAt w (.slice a t.es.length c0) t.es) : Calls Tryz.prog 36 #[tbV t (.slice a t.es.length c0)] w fun e w' => ∃ r, e = .returned r ∧ (∃ b c, r = .tuple #[.pointer (some ⟨b, 0, none⟩), .int .i64 0] ∧ w.heap.size ≤ c ∧ c < b ∧ Lp w' b c none t 0) ∧ Below w.heap.size w w' := by
 have hn := can_len hb
 have hpos := (can_num hb).2.2
 refine calls_Wp (args := [_]) (n := 18) Tryz.func36 rfl rfl (by simp) ?_
 refine Wp.seq ?_
 refine wR [0, 1, 2] ?_
 refine sE (fun bk1 w1 kb1 lw1 => ?_)
 try replace vm := vm.later lw1
 refine sZ 2 ?_
 refine Wp.seq ?_
 refine Wp.seq ?_
 refine Wp.old (fun lo => ?_)
 have tb := hv.later lo
 clear lo
 refine wQ 1 ?_
 refine sT (check_yes hb hu he tb) ?_
 rintro v w2 rfl lw2
 replace tb := tb.later lw2
 try replace vm := vm.later lw2
 refine sZ 5 ?_
 refine qQ 1 ?_
 refine f_neq rfl rfl rfl rfl rfl (by omega) ?_
 refine vOrd_nil ?_
 refine Wp.condF rfl rfl ?_
 refine Wp.skip ?_
 refine Wp.seq ?_
 refine Wp.old (fun lo4 => ?_)
 have hs4 := lo4.size
 refine Wp.old (fun lo => ?_)
 have tb := hv.later lo
 clear lo
 refine wQ 1 ?_
 refine sT (copied_any t tb hpos hn) ?_
 rintro v w3 ⟨cm, rfl, hcm, vm⟩ lw3
 replace tb := tb.later lw3
 try replace vm := vm.later lw3
 have qm := vm.lt
 refine sB ?_
 refine sE (fun bk17 wk17 kb17 lk17 => ?_)
 replace vm := vm.later lk17
 refine sZ 2 ?_
 refine Wp.var (h := 17) rfl (fun v17 => ?_)
 refine Wp.ret ⟨.inr rfl, fun lW => ⟨_, ⟨_, _, res_ptr (P := Tryz.prog) rfl, res_tmp (P := Tryz.prog) rfl rfl, rfl⟩, _, rfl, ?_, lW⟩⟩
 clear lW
 exact ⟨bk17, cm, rfl, by omega, by omega, 0, .slice none 0 0, v17, vm, by omega, .inl ⟨rfl, rfl, rfl⟩⟩
theorem new_no (t : Tb) (hb : canBe t = false) (hu : I64 t.u) (he : I64 t.e) {a : Option Addr} {c0 : Nat} {w : World} (hv : EntAt w (.slice a t.es.length c0) t.es) : Calls Tryz.prog 36 #[tbV t (.slice a t.es.length c0)] w fun e w' => ∃ r, e = .returned r ∧ r = .tuple #[.pointer none, .int .i64 10] ∧ Below w.heap.size w w' := by
 refine calls_Wp (args := [_]) (n := 18) Tryz.func36 rfl rfl (by simp) ?_
 refine Wp.seq ?_
 refine wR [0, 1, 2] ?_
 refine sE (fun bk1 w1 kb1 lw1 => ?_)
 refine sZ 2 ?_
 refine Wp.seq ?_
 refine Wp.seq ?_
 refine Wp.old (fun lo => ?_)
 have tb := hv.later lo
 clear lo
 refine wQ 1 ?_
 refine sT (check_no hb hu he tb) ?_
 rintro v w2 rfl lw2
 replace tb := tb.later lw2
 refine sZ 5 ?_
 refine qQ 1 ?_
 refine t_neq rfl rfl rfl rfl rfl (by omega) ?_
 refine vOrd_nil ?_
 refine Wp.condT rfl rfl ?_
 refine qZ ?_
 refine Wp.ret ⟨.inr rfl, fun lW => ⟨_, ⟨_, _, res_tmp (P := Tryz.prog) rfl rfl, res_tmp (P := Tryz.prog) rfl rfl, rfl⟩, _, rfl, ?_, lW⟩⟩
 clear lW
 rfl
theorem once_any {t : Tb} {b c : Nat} {k d : Int} {u : Value} {R : Option Nat} {w : World} (hb : canBe t = true) (hv : Var w b (leapC t c k d 0 u)) (hE : Var w c (entC t.es)) (hcb : c < b) (hd : (d = 0 ∧ u = .slice none 0 0 ∧ R = none) ∨ (d = 1 ∧ ∃ r, R = some r ∧ Eras w b r u t.es)) :
  Calls Tryz.prog 89 #[.pointer (some ⟨b, 4, none⟩), .func (.func 90) #[.pointer (some ⟨b, 0, none⟩)] #[]] w fun e w' => ∃ v, e = .returned v ∧ (∃ cs', (v = .tuple #[] ∧ ∃ u' r, cs' = leapC t c k 1 0 u' ∧ Eras w' b r u' t.es ∧ Nx w R (some r)) ∧ Var w' b cs') ∧ w.grownBy w' (some b) := by
 rcases hd with ⟨rfl, rfl, rfl⟩ | ⟨rfl, r, rfl, hEr⟩
 ·obtain ⟨v1, s1⟩ := hv.setCell 5 (.int .i32 1)
  have hs := split_any (k := k) hb v1 (hE.sto s1 (by omega)) hcb
  have g1 := grown_of_stored s1
  refine (do_first b 4 ⟨b, 0, none⟩ (fun w2 => (∃ u r, Var w2 b (leapC t c k 0 1 u) ∧ Eras w2 b r u t.es ∧ w.heap.size ≤ r) ∧ w.grownBy w2 (some b)) w ((cell_var hv 4).trans rfl) ((cell_var hv 5).trans rfl) (hv.unfrozen 5) (hs.mono ?_)).mono ?_
  ·rintro e w2 ⟨v, rfl, ⟨cs', ⟨rfl, u, r, rfl, hEr, hr⟩, v2⟩, g2⟩
   refine ⟨rfl, ⟨⟨u, r, v2, hEr, by rw [s1.size] at hr; exact hr⟩, grown_then g1 g2⟩, (cell_var v2 4).trans rfl, (cell_var v2 5).trans rfl, v2.unfrozen 4, v2.unfrozen 5⟩
  ·rintro e w' ⟨rfl, w2, ⟨⟨u, r, v2, hEr, hr⟩, g2⟩, rfl⟩
   obtain ⟨v3, s3⟩ := v2.drew.setCell 4 (.int .u32 1)
   obtain ⟨v4, s4⟩ := v3.setCell 5 (.int .i32 0)
   have g3 := grown_then (grown_then (drew_grown w2 (some b)) (grown_of_stored s3)) (grown_of_stored s4)
   exact ⟨_, rfl, ⟨_, ⟨rfl, u, r, rfl, hEr.grown g3, .inr ⟨r, rfl, hr⟩⟩, v4⟩, grown_then g2 g3⟩
 ·refine (do_done b 4 1 (by decide) _ w ((cell_var hv 4).trans rfl)).mono ?_
  rintro e w' ⟨rfl, rfl⟩
  exact ⟨_, rfl, ⟨_, ⟨rfl, u, r, rfl, hEr, .inl rfl⟩, hv⟩, grown_of_later (Later.refl _) _⟩
theorem once_at {t : Tb} {b c : Nat} {k d : Int} {u : Value} {R : Option Nat} {w : World} (hb : canBe t = true) (hE : Var w c (entC t.es)) (hcb : c < b) (hd : (d = 0 ∧ u = .slice none 0 0 ∧ R = none) ∨ (d = 1 ∧ ∃ r, R = some r ∧ Eras w b r u t.es)) {w1 : World} (g : w.grownBy w1 (some b)) (hv : Var w1 b (leapC t c k d 0 u)) :
  Calls Tryz.prog 89 #[.pointer (some ⟨b, 4, none⟩), .func (.func 90) #[.pointer (some ⟨b, 0, none⟩)] #[]] w1 fun e w' => ∃ v, e = .returned v ∧ (∃ cs', (v = .tuple #[] ∧ ∃ u' r, cs' = leapC t c k 1 0 u' ∧ Eras w' b r u' t.es ∧ Nx w R (some r)) ∧ Var w' b cs') ∧ w1.grownBy w' (some b) := by
 refine (once_any (R := R) hb hv (hE.grown g (by simp; omega)) hcb (hd.imp id (fun ⟨h1, r, h2, h3⟩ => ⟨h1, r, h2, h3.grown g⟩))).mono ?_
 rintro e w' ⟨v, h1, ⟨cs', ⟨h2, u', r, h3, h4, h5⟩, h6⟩, h7⟩
 refine ⟨v, h1, ⟨cs', ⟨h2, u', r, h3, h4, ?_⟩, h6⟩, h7⟩
 rcases h5 with h5 | ⟨r', h5, h8⟩
 ·exact .inl h5
 ·exact .inr ⟨r', h5, Nat.le_trans g.size h8⟩

theorem known_nil {w : World} : Calls Tryz.prog 58 #[.pointer none] w fun e w' => ∃ r, e = .returned r ∧ r = .slice none 0 0 ∧ Below w.heap.size w w' := by
 refine calls_Wp (args := [_]) (n := 15) Tryz.func58 rfl rfl (by simp) ?_
 refine qZ ?_
 refine Wp.seq ?_
 refine qQ 1 ?_
 refine s_nilEq none rfl rfl rfl rfl rfl ?_
 refine vOrd_nil ?_
 refine Wp.condT rfl rfl ?_
 refine qZ ?_
 refine Wp.ret ⟨.inr rfl, fun lW => ⟨_, res_tmp (P := Tryz.prog) rfl rfl, _, rfl, ?_, lW⟩⟩
 clear lW
 rfl
theorem known_any {t : Tb} {b c : Nat} {R : Option Nat} {k : Int} {w : World} (hb : canBe t = true) (hL : Lp w b c R t k) : Calls Tryz.prog 58 #[.pointer (some ⟨b, 0, none⟩)] w fun e w' => ∃ v, e = .returned v ∧ (∃ cs', (∃ r, cs' = leapC t c k 1 0 v ∧ Nx w R (some r) ∧ Eras w' b r v t.es ∧ Var w' c (entC t.es) ∧ c < b) ∧ Var w' b cs') ∧ w.grownBy w' (some b) := by
 obtain ⟨d, u, hv, hE, hcb, hd⟩ := hL
 have hbw := hv.lt
 have hcw := hE.lt
 refine calls_WpH (args := []) (n := 15) hv Tryz.func58 rfl rfl (by simp) ?_
 refine qZ ?_
 refine Wp.seq ?_
 refine qQ 1 ?_
 refine s_nilEq (some ⟨b, 0, none⟩) rfl rfl rfl rfl rfl ?_
 refine vOrd_nil ?_
 refine Wp.condF rfl rfl ?_
 refine Wp.skip ?_
 refine Wp.seq ?_
 refine Wp.oldH (fun lo => ?_)
 refine wQ 4 ?_
 refine s_mkfun1 rfl rfl rfl rfl ?_
 refine s_callH 899 rfl rfl rfl (by kernel_rfl) rfl rfl (fun vr => once_at hb hE hcb hd lo vr) ?_
 rintro v cs3 w3 ⟨rfl, u1, r1, rfl, hEr, hNx⟩ gw3 vw3
 refine vOrd_nil ?_
 refine qZ ?_
 refine Wp.ret ⟨.inr rfl, fun mW lW => ⟨_, res_tmp (P := Tryz.prog) rfl rfl, _, rfl, ?_, lW⟩⟩
 exact ⟨_, ⟨r1, rfl, hNx, hEr, hE.grown lW (by simp; omega), hcb⟩, mW 899 _ _ rfl⟩

theorem first_any {t : Tb} {b c : Nat} {R : Option Nat} {k : Int} {w : World} (hb : canBe t = true) (hL : Lp w b c R t k) : Calls Tryz.prog 37 #[.pointer (some ⟨b, 0, none⟩)] w fun e w' => ∃ v, e = .returned v ∧ (∃ cs', (v = .int .i64 (dayA t.es 1) ∧ ∃ R', Nx w R R' ∧ Lp w' b c R' t (k)) ∧ Var w' b cs') ∧ w.grownBy w' (some b) := by
 have hpos := (can_num hb).2.2
 obtain ⟨x, hx⟩ : ∃ x, t.es[0]? = some x := ⟨_, List.getElem?_eq_getElem hpos⟩
 obtain ⟨cs0, hv⟩ := hL.var
 refine calls_WpH (args := []) (n := 13) hv Tryz.func37 rfl rfl (by simp) ?_
 refine qZ ?_
 refine qQ 1 ?_
 refine s_callH 899 rfl rfl rfl (by kernel_rfl) rfl rfl (fun vr => known_any hb hL) ?_
 rintro v cs1 w1 ⟨r1, rfl, hNx, hEr, hE, hcb⟩ gw1 vw1
 obtain ⟨cr1, rfl, hcell⟩ := hEr.at
 obtain ⟨c0, _⟩ := hcell 0 x hx
 clear hL
 refine sZ 1 ?_
 refine Wp.seq ?_
 refine qQ 1 ?_
 refine x_len rfl rfl rfl rfl rfl ?_
 refine f_eql rfl rfl rfl rfl rfl (by omega) ?_
 refine vOrd_nil ?_
 refine Wp.condF rfl rfl ?_
 refine Wp.skip ?_
 refine qQ 1 ?_
 refine s_idx (sz := 5) 0 rfl rfl rfl rfl rfl rfl rfl (by omega) (by omega) (by omega) ?_
 refine s_fieldV 0 rfl rfl rfl rfl 0 rfl rfl ?_
 refine x_ldc (v := .int .i64 (dayE x)) rfl rfl rfl rfl rfl c0 ?_
 refine sZ 1 ?_
 refine Wp.ret ⟨.inr rfl, fun mW lW => ⟨_, res_tmp (P := Tryz.prog) rfl rfl, _, rfl, ?_, lW⟩⟩
 exact ⟨_, ⟨by rw [(A_at hx).1], some r1, hNx, 1, _, mW 899 _ _ rfl, hE, hcb, .inr ⟨rfl, r1, rfl, hEr⟩⟩, mW 899 _ _ rfl⟩
end Go.Proofs.YthihioakjpmnbaaGreat

namespace Go.Proofs.YthihioakjpmnbaaGreat
open Go.RowKit
set_option maxRecDepth 100000

theorem add_at {b c : Nat} {t : Tb} {k : Int} {v : Value} {w : World} (hk : 0 ≤ k ∧ k ≤ 1000000) (hv : Var w b (leapC t c k 1 0 v)) : Calls Tryz.prog 147 #[.pointer (some ⟨b, 3, none⟩), .int .i64 1] w fun e w' => ∃ v', e = .returned v' ∧ (∃ cs', (v' = .int .i64 (k + 1) ∧ cs' = leapC t c (k + 1) 1 0 v) ∧ Var w' b cs') ∧ w.grownBy w' (some b) := by
 obtain ⟨v1, s1⟩ := hv.setCell 3 (.int .i64 (k + 1))
 refine (addA_any ⟨b, 3, none⟩ k (by omega) (by omega) w ((cell_var hv 3).trans rfl) (hv.unfrozen 3)).mono ?_
 rintro e w' ⟨rfl, rfl⟩
 exact ⟨_, rfl, ⟨_, ⟨rfl, rfl⟩, v1⟩, grown_of_stored s1⟩
theorem askV_zero (es : List Ent) : askV es 0 = .tuple #[.agg (eraV 0 0 0 0 0).toArray, .int .i64 8] := rfl
theorem ask_nil {f : FuncId} {q : Nat} {w : World} : Calls Tryz.prog 138 #[.pointer none, .func (.func f) #[] #[.pointer (some ⟨q, 0, none⟩)]] w fun e w' => ∃ r, e = .returned r ∧ r = .tuple #[.agg (eraV 0 0 0 0 0).toArray, .int .i64 12] ∧ Below w.heap.size w w' := by
 refine calls_Wp (args := [_, _]) (n := 32) Tryz.func138 rfl rfl (by simp) ?_
 refine Wp.seq ?_
 refine wR [0, 1, 2] ?_
 refine sE (fun bk1 w1 kb1 lw1 => ?_)
 refine sO (fun bk2 w2 kb2 lw2 => ?_)
 refine sZ 1 ?_
 refine qQ 1 ?_
 refine sT (known_nil) ?_
 rintro v w3 rfl lw3
 refine sO (fun bk4 w4 kb4 lw4 => ?_)
 refine sS (fun w5 sw5 vw5 => ?_)
 refine vOrd_nil ?_
 refine Wp.seq ?_
 refine qQ 1 ?_
 refine s_nilNe none rfl rfl rfl rfl rfl ?_
 refine vOrd_nil ?_
 refine Wp.condF rfl rfl ?_
 refine Wp.skip ?_
 refine Wp.seq ?_
 refine qQ 1 ?_
 refine x_len rfl rfl rfl rfl rfl ?_
 refine t_eql rfl rfl rfl rfl rfl (by omega) ?_
 refine vOrd_nil ?_
 refine Wp.condT rfl rfl ?_
 refine Wp.seq ?_
 refine wR [0, 1, 2] ?_
 refine sB ?_
 refine sS (fun w7 sw7 vw7 => ?_)
 refine sZ 1 ?_
 refine Wp.ret ⟨.inr rfl, fun lW => ⟨_, ⟨_, _, res_cell rfl rfl rfl rfl, res_tmp (P := Tryz.prog) rfl rfl, rfl⟩, _, rfl, ?_, lW⟩⟩
 clear lW
 rfl
theorem ask_any {t : Tb} {b c : Nat} {R : Option Nat} {k : Int} {w : World} (hb : canBe t = true) (hL : Lp w b c R t k) (hk : 0 ≤ k ∧ k ≤ 1000000) {p : Ent → Bool} {K : Nat} (hcut : Cut p t.es K) {f : FuncId} {q : Nat} (hf : goFn Tryz.prog f = true) (hc : ∀ (W : World) (j : Nat) (e : Ent), w.grownBy W (some b) → t.es[j]? = some e → Calls Tryz.prog f #[.agg (eraV (dayE e) (startE e) e.2 (untilE t.es j) (chgE t.es j)).toArray, .pointer (some ⟨q, 0, none⟩)] W fun e' w' => ∃ r, e' = .returned r ∧ r = .bool (p e) ∧ Below W.heap.size W w') : Calls Tryz.prog 138 #[.pointer (some ⟨b, 0, none⟩), .func (.func f) #[] #[.pointer (some ⟨q, 0, none⟩)]] w fun e w' => ∃ v, e = .returned v ∧ (∃ cs', (v = askV t.es K ∧ ∃ R', Nx w R R' ∧ Lp w' b c R' t (k + 1)) ∧ Var w' b cs') ∧ w.grownBy w' (some b) := by
 have hn := can_len hb
 have hpos := (can_num hb).2.2
 obtain ⟨cs0, hv⟩ := hL.var
 have hE0 : Var w c (entC t.es) := by obtain ⟨_, _, _, h, _⟩ := hL; exact h
 refine calls_WpH (args := [_]) (n := 32) hv Tryz.func138 rfl rfl (by simp) ?_
 refine Wp.seq ?_
 refine wR [0, 1, 2] ?_
 refine sE (fun bs3 ws3 ks3 ls3 => ?_)
 refine sO (fun bs4 ws4 ks4 ls4 => ?_)
 refine sZ 1 ?_
 refine Wp.seq ?_
 refine Wp.var (h := 3) rfl (fun v3 => ?_)
 have q3 := v3.lt
 refine Wp.var (h := 4) rfl (fun v4 => ?_)
 have q4 := v4.lt
 have nL4 := hL.ne (q := bs4) (by have := ls3.size; omega)
 refine wQ 1 ?_
 refine s_callH 899 rfl rfl rfl (by kernel_rfl) rfl rfl (fun vr => (known_any hb ((hL.later ls3).later ls4))) ?_
 rintro v cs3 w3 ⟨r1, rfl, hNx, hEr, hE, hcb⟩ gw3 vw3
 obtain ⟨cr1, rfl, _⟩ := hEr.at
 have n4 : r1 ≠ bs4 := fun e => by rcases hNx with e1 | ⟨r2, e1, h2⟩; exact nL4.2.2 (by rw [← e1, e]); cases e1; omega
 refine sO (fun bs6 ws6 ks6 ls6 => ?_)
 have n6 : r1 ≠ bs6 := by have := hEr.lt; omega
 replace hEr := hEr.later ls6
 refine sS (fun w7 sw7 vw7 => ?_)
 replace hEr := hEr.sto sw7 n6
 refine vOrd_nil ?_
 refine Wp.seq ?_
 refine qQ 1 ?_
 refine s_nilNe (some ⟨b, 0, none⟩) rfl rfl rfl rfl rfl ?_
 refine vOrd_nil ?_
 refine Wp.condT rfl rfl ?_
 refine wQ 3 ?_
 refine s_callH 899 rfl rfl rfl (by kernel_rfl) rfl rfl (fun vr => add_at hk vr) ?_
 rintro v cs9 w9 ⟨rfl, rfl⟩ gw9 vw9
 replace hEr := hEr.grown gw9
 refine vOrd_nil ?_
 refine Wp.seq ?_
 refine qQ 1 ?_
 refine x_len rfl rfl rfl rfl rfl ?_
 refine f_eql rfl rfl rfl rfl rfl (by omega) ?_
 refine vOrd_nil ?_
 refine Wp.condF rfl rfl ?_
 refine Wp.skip ?_
 refine Wp.seq ?_
 refine Wp.var (h := 3) rfl (fun v3 => ?_)
 have q3 := v3.lt
 refine Wp.var (h := 6) rfl (fun v6 => ?_)
 have q6 := v6.lt
 obtain ⟨cr2, ecr, hcell⟩ := hEr.at
 cases ecr
 refine Wp.oldH (fun lo6 => ?_)
 refine wQ 1 ?_
 refine x_len rfl rfl rfl rfl rfl ?_
 refine s_mkfun rfl rfl rfl rfl ?_
 refine s_callT rfl rfl rfl (by kernel_rfl) rfl ((search_any (n := t.es.length) (k := K) (f := 149) (caps := [.pointer (some ⟨bs3, 0, none⟩), .pointer (some ⟨bs6, 0, none⟩)]) hcut.1 (by omega) (by kernel_rfl) (fun W h lW hh => pick_any hcut hf (v3.later lW) (v6.later lW) (fun j e he => have z := hcell j e he; ⟨cell_later lW z.1, cell_later lW z.2.1, cell_later lW z.2.2.1, cell_later lW z.2.2.2.1, cell_later lW z.2.2.2.2⟩) (fun W2 j e l2 he => hc W2 j e (grown_then lo6 (grown_of_later (lW.trans l2) _)) he) hh))) ?_
 rintro v w10 rfl lw10
 try replace hEr := hEr.later lw10
 refine sZ 1 ?_
 refine Wp.seq ?_
 refine qQ 1 ?_
 refine p_eql rfl rfl rfl rfl rfl (fun h25 => ?_) (fun h25 => ?_)
 ·refine vOrd_nil ?_
  refine Wp.condT rfl rfl ?_
  refine Wp.seq ?_
  refine wR [0, 1, 2] ?_
  refine sB ?_
  refine sS (fun w11 sw11 vw11 => ?_)
  replace hEr := hEr.sto sw11 n4
  refine sZ 1 ?_
  refine Wp.ret ⟨.inr rfl, fun mW lW => ⟨_, ⟨_, _, res_cell rfl rfl rfl rfl, res_tmp (P := Tryz.prog) rfl rfl, rfl⟩, _, rfl, ?_, lW⟩⟩
  have hK0 : K = 0 := by omega
  subst hK0
  exact ⟨_, ⟨rfl, some r1, .trans (.inl rfl) hNx (by have := ls3.size; have := ls4.size; omega), 1, _, mW 899 _ _ rfl, hE0.grown lW (by simp; omega), hcb, .inr ⟨rfl, r1, rfl, hEr⟩⟩, mW 899 _ _ rfl⟩
 ·refine vOrd_nil ?_
  refine Wp.condF rfl rfl ?_
  refine Wp.skip ?_
  refine Wp.seq ?_
  obtain ⟨K, rfl⟩ : ∃ j, K = j + 1 := ⟨K - 1, by omega⟩
  have hKl : K < t.es.length := by have := hcut.1; omega
  obtain ⟨x, hx⟩ : ∃ x, t.es[K]? = some x := ⟨t.es[K], List.getElem?_eq_getElem hKl⟩
  obtain ⟨cr3, ecr3, hcell3⟩ := hEr.at
  cases ecr3
  obtain ⟨c0, c1, c2, c3, c4⟩ := hcell3 K x hx
  refine wQ 2 ?_
  refine aM (-9223372036854775808) 9223372036854775807 ?_
  refine sI (sz := 5) (K * 5) ?_
  refine x_ldA (eraV (dayE x) (startE x) x.2 (untilE t.es K) (chgE t.es K)) rfl rfl rfl rfl rfl rfl (World.block_lt_of_cell? _ _ c0) (fun j u hj => ?_) ?_
  ·match j, hj with
   | 0, hj => cases hj; exact c0
   | 1, hj => cases hj; exact c1
   | 2, hj => cases hj; exact c2
   | 3, hj => cases hj; exact c3
   | 4, hj => cases hj; exact c4
  refine sS (fun w20 sw20 vw20 => ?_)
  replace hEr := hEr.sto sw20 n4
  refine sZ 1 ?_
  refine Wp.ret ⟨.inr rfl, fun mW lW => ⟨_, ⟨_, _, res_cell rfl rfl rfl rfl, res_tmp (P := Tryz.prog) rfl rfl, rfl⟩, _, rfl, ?_, lW⟩⟩
  exact ⟨_, ⟨by rw [ask_at hx]; rfl, some r1, .trans (.inl rfl) hNx (by have := ls3.size; have := ls4.size; omega), 1, _, mW 899 _ _ rfl, hE0.grown lW (by simp; omega), hcb, .inr ⟨rfl, r1, rfl, hEr⟩⟩, mW 899 _ _ rfl⟩
theorem onDay_nil {day : Int} {w : World} : Calls Tryz.prog 127 #[.pointer none, .int .i64 day] w fun e w' => ∃ r, e = .returned r ∧ r = .tuple #[.agg (eraV 0 0 0 0 0).toArray, .int .i64 12] ∧ Below w.heap.size w w' := by
 refine calls_Wp (args := [_, _]) (n := 11) Tryz.func127 rfl rfl (by simp) ?_
 refine Wp.seq ?_
 refine wR [0, 1, 2] ?_
 refine sE (fun bk1 w1 kb1 lw1 => ?_)
 refine sO (fun bk2 w2 kb2 lw2 => ?_)
 refine sZ 1 ?_
 refine qQ 1 ?_
 refine s_mkfun rfl rfl rfl rfl ?_
 refine sT (ask_nil) ?_
 rintro v w3 rfl lw3
 refine sQ 2 ?_
 refine sS (fun w4 sw4 vw4 => ?_)
 refine sZ 1 ?_
 refine Wp.ret ⟨.inr rfl, fun lW => ⟨_, ⟨_, _, res_cell rfl rfl rfl rfl, res_tmp (P := Tryz.prog) rfl rfl, rfl⟩, _, rfl, ?_, lW⟩⟩
 clear lW
 rfl
theorem onDay_any {t : Tb} {b c : Nat} {R : Option Nat} {k : Int} {w : World} (hb : canBe t = true) (hL : Lp w b c R t k) (hk : 0 ≤ k ∧ k ≤ 1000000) {day : Int} {K : Nat} (hcut : Cut (pDay day) t.es K) : Calls Tryz.prog 127 #[.pointer (some ⟨b, 0, none⟩), .int .i64 day] w fun e w' => ∃ v, e = .returned v ∧ (∃ cs', (v = askV t.es K ∧ ∃ R', Nx w R R' ∧ Lp w' b c R' t (k + 1)) ∧ Var w' b cs') ∧ w.grownBy w' (some b) := by
 obtain ⟨cs0, hv⟩ := hL.var
 refine calls_WpH (args := [_]) (n := 11) hv Tryz.func127 rfl rfl (by simp) ?_
 refine Wp.seq ?_
 refine wR [0, 1, 2] ?_
 refine sE (fun bs3 ws3 ks3 ls3 => ?_)
 replace hL := hL.later ls3
 refine sO (fun bs4 ws4 ks4 ls4 => ?_)
 have nL4 := hL.ne ks4
 replace hL := hL.later ls4
 refine sZ 1 ?_
 refine Wp.seq ?_
 have hbl := hv.lt
 refine Wp.var (h := 3) rfl (fun v3 => ?_)
 have q3 := v3.lt
 refine Wp.var (h := 4) rfl (fun v4 => ?_)
 have q4 := v4.lt
 refine wQ 1 ?_
 refine s_mkfun rfl rfl rfl rfl ?_
 refine s_callH 899 rfl rfl rfl (by kernel_rfl) rfl rfl (fun vr => (ask_any (p := pDay day) (f := 139) (q := bs3) hb hL hk hcut (by kernel_rfl) (fun W j e gW he => day1_any _ _ _ _ _ (v3.grown gW (by simp; omega))))) ?_
 rintro v cs6 w6 ⟨rfl, R2, hNx, hL2⟩ gw6 vw6
 have mL4 := hNx.ne nL4.2.2 q4
 clear hL
 refine sQ 2 ?_
 refine sS (fun w5 sw5 vw5 => ?_)
 replace hL2 := hL2.sto sw5 ⟨nL4.1, nL4.2.1, mL4⟩
 refine sZ 1 ?_
 refine Wp.ret ⟨.inr rfl, fun mW lW => ⟨_, ⟨_, _, res_cell rfl rfl rfl rfl, res_tmp (P := Tryz.prog) rfl rfl, rfl⟩, _, rfl, ?_, lW⟩⟩
 exact ⟨_, ⟨rfl, R2, .trans (.inl rfl) hNx (by have := ls3.size; have := ls4.size; omega), hL2⟩, mW 899 _ _ rfl⟩
theorem length_nil {day : Int} {w : World} : Calls Tryz.prog 113 #[.pointer none, .int .i64 day] w fun e w' => ∃ r, e = .returned r ∧ r = .tuple #[.int .i64 0, .int .i64 12] ∧ Below w.heap.size w w' := by
 refine calls_Wp (args := [_, _]) (n := 21) Tryz.func113 rfl rfl (by simp) ?_
 refine qZ ?_
 refine qQ 2 ?_
 refine sT (onDay_nil) ?_
 rintro v w1 rfl lw1
 refine sQ 3 ?_
 refine sO (fun bk2 w2 kb2 lw2 => ?_)
 refine sS (fun w3 sw3 vw3 => ?_)
 refine sZ 1 ?_
 refine Wp.seq ?_
 refine qQ 1 ?_
 refine t_neq rfl rfl rfl rfl rfl (by omega) ?_
 refine vOrd_nil ?_
 refine Wp.condT rfl rfl ?_
 refine qZ ?_
 refine Wp.ret ⟨.inr rfl, fun lW => ⟨_, ⟨_, _, res_tmp (P := Tryz.prog) rfl rfl, res_tmp (P := Tryz.prog) rfl rfl, rfl⟩, _, rfl, ?_, lW⟩⟩
 clear lW
 rfl
theorem offset_any {t : Tb} {b c : Nat} {R : Option Nat} {k : Int} {w : World} (hb : canBe t = true) (hL : Lp w b c R t k) (hk : 0 ≤ k ∧ k ≤ 1000000) {day : Int} {K : Nat} (hcut : Cut (pDay day) t.es K) : Calls Tryz.prog 114 #[.pointer (some ⟨b, 0, none⟩), .int .i64 day] w fun e w' => ∃ v, e = .returned v ∧ (∃ cs', (v = .tuple #[.int .i64 (offA t.es K), .int .i64 (errA K)] ∧ ∃ R', Nx w R R' ∧ Lp w' b c R' t (k + 1)) ∧ Var w' b cs') ∧ w.grownBy w' (some b) := by
 obtain ⟨cs0, hv⟩ := hL.var
 refine calls_WpH (args := [_]) (n := 17) hv Tryz.func114 rfl rfl (by simp) ?_
 refine qZ ?_
 refine qQ 2 ?_
 refine s_callH 899 rfl rfl rfl (by kernel_rfl) rfl rfl (fun vr => (onDay_any hb hL hk hcut)) ?_
 rintro v cs1 w1 ⟨rfl, R2, hNx, hL2⟩ gw1 vw1
 unfold askV
 refine sQ 3 ?_
 refine sO (fun bs6 ws6 ks6 ls6 => ?_)
 have nL6 := hL2.ne ks6
 replace hL2 := hL2.later ls6
 refine sS (fun w5 sw5 vw5 => ?_)
 replace hL2 := hL2.sto sw5 nL6
 refine sZ 1 ?_
 refine qZ ?_
 refine Wp.ret ⟨.inr rfl, fun mW lW => ⟨_, ⟨_, _, res_tmp (P := Tryz.prog) rfl rfl, res_tmp (P := Tryz.prog) rfl rfl, rfl⟩, _, rfl, ?_, lW⟩⟩
 exact ⟨_, ⟨rfl, R2, hNx, hL2⟩, mW 899 _ _ rfl⟩
theorem length_none {t : Tb} {b c : Nat} {R : Option Nat} {k : Int} {w : World} (hb : canBe t = true) (hL : Lp w b c R t k) (hk : 0 ≤ k ∧ k ≤ 1000000) {day : Int} {K : Nat} (hcut : Cut (pDay day) t.es K) (h0 : K = 0) : Calls Tryz.prog 113 #[.pointer (some ⟨b, 0, none⟩), .int .i64 day] w fun e w' => ∃ v, e = .returned v ∧ (∃ cs', (v = .tuple #[.int .i64 0, .int .i64 8] ∧ ∃ R', Nx w R R' ∧ Lp w' b c R' t (k + 1)) ∧ Var w' b cs') ∧ w.grownBy w' (some b) := by
 obtain ⟨cs0, hv⟩ := hL.var
 subst h0
 refine calls_WpH (args := [_]) (n := 21) hv Tryz.func113 rfl rfl (by simp) ?_
 refine qZ ?_
 refine qQ 2 ?_
 refine s_callH 899 rfl rfl rfl (by kernel_rfl) rfl rfl (fun vr => (onDay_any hb hL hk hcut)) ?_
 rintro v cs1 w1 ⟨rfl, R2, hNx, hL2⟩ gw1 vw1
 rw [askV_zero]
 refine sQ 3 ?_
 refine sO (fun bs6 ws6 ks6 ls6 => ?_)
 have nL6 := hL2.ne ks6
 replace hL2 := hL2.later ls6
 refine sS (fun w5 sw5 vw5 => ?_)
 replace hL2 := hL2.sto sw5 nL6
 refine sZ 1 ?_
 refine Wp.seq ?_
 refine qQ 1 ?_
 refine t_neq rfl rfl rfl rfl rfl (by omega) ?_
 refine vOrd_nil ?_
 refine Wp.condT rfl rfl ?_
 refine qZ ?_
 refine Wp.ret ⟨.inr rfl, fun mW lW => ⟨_, ⟨_, _, res_tmp (P := Tryz.prog) rfl rfl, res_tmp (P := Tryz.prog) rfl rfl, rfl⟩, _, rfl, ?_, lW⟩⟩
 exact ⟨_, ⟨rfl, R2, hNx, hL2⟩, mW 899 _ _ rfl⟩
theorem length_some {t : Tb} {b c : Nat} {R : Option Nat} {k : Int} {w : World} (hb : canBe t = true) (hL : Lp w b c R t k) (hk : 0 ≤ k ∧ k ≤ 1000000) {day : Int} {K : Nat} (hcut : Cut (pDay day) t.es K) (h0 : 0 < K) : Calls Tryz.prog 113 #[.pointer (some ⟨b, 0, none⟩), .int .i64 day] w fun e w' => ∃ v, e = .returned v ∧ (∃ cs', (v = .tuple #[.int .i64 (86400 + moreA t.es K day), .int .i64 0] ∧ ∃ R', Nx w R R' ∧ Lp w' b c R' t (k + 1)) ∧ Var w' b cs') ∧ w.grownBy w' (some b) := by
 obtain ⟨cs0, hv⟩ := hL.var
 have hA := can_A hb K
 have he : errA K = 0 := by obtain ⟨j, rfl⟩ : ∃ j, K = j + 1 := ⟨K - 1, by omega⟩; rfl
 refine calls_WpH (args := [_]) (n := 21) hv Tryz.func113 rfl rfl (by simp) ?_
 refine qZ ?_
 refine qQ 2 ?_
 refine s_callH 899 rfl rfl rfl (by kernel_rfl) rfl rfl (fun vr => (onDay_any hb hL hk hcut)) ?_
 rintro v cs1 w1 ⟨rfl, R2, hNx, hL2⟩ gw1 vw1
 unfold askV
 rw [he]
 refine sQ 3 ?_
 refine sO (fun bs6 ws6 ks6 ls6 => ?_)
 have nL6 := hL2.ne ks6
 replace hL2 := hL2.later ls6
 refine sS (fun w5 sw5 vw5 => ?_)
 replace hL2 := hL2.sto sw5 nL6
 refine sZ 1 ?_
 refine Wp.seq ?_
 refine qQ 1 ?_
 refine f_neq rfl rfl rfl rfl rfl (by omega) ?_
 refine vOrd_nil ?_
 refine Wp.condF rfl rfl ?_
 refine Wp.skip ?_
 refine qQ 2 ?_
 refine s_callT rfl rfl rfl (by kernel_rfl) rfl (more_any _ _ _ _ _ day (by omega)) ?_
 rintro v w7 rfl lw7
 replace hL2 := hL2.later lw7
 have hmi := more_in hb K day
 unfold moreA at hmi
 refine aP (-9223372036854775808) 9223372036854775807 ?_
 refine sZ 2 ?_
 refine Wp.ret ⟨.inr rfl, fun mW lW => ⟨_, ⟨_, _, res_tmp (P := Tryz.prog) rfl rfl, res_tmp (P := Tryz.prog) rfl rfl, rfl⟩, _, rfl, ?_, lW⟩⟩
 exact ⟨_, ⟨rfl, R2, hNx, hL2⟩, mW 899 _ _ rfl⟩
end Go.Proofs.YthihioakjpmnbaaGreat
