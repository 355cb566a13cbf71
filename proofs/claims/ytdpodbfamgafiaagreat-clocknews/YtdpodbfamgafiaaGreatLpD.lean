/-
 Leap seconds: the calls of leaps, by what they answer and what they leave. Of tables that may be; what is asked less than 1000000 times.
-/
import Derived.Test.YtdpodbfamgafiaaGreatLpC
namespace Go.Proofs.YtdpodbfamgafiaaGreat
open Go.RowKit
set_option maxRecDepth 100000

theorem check_yes {t : Tb} (hb : canBe t = true) (hu : I64 t.u) (he : I64 t.e) {v : Value} {w : World} (hv : EntAt w v t.es) : Calls Tryz.prog 48 #[tbV t v] w fun e w' => ∃ r, e = .returned r ∧ r = .tuple #[.int .i64 0, .int .i64 0] ∧ Below w.heap.size w w' := by
 have h := check_any t hu he hv
 rw [can_place hb, hb] at h
 exact h
theorem check_no {t : Tb} (hb : canBe t = false) (hu : I64 t.u) (he : I64 t.e) {v : Value} {w : World} (hv : EntAt w v t.es) : Calls Tryz.prog 48 #[tbV t v] w fun e w' => ∃ r, e = .returned r ∧ r = .tuple #[.int .i64 (place t : Int), .int .i64 10] ∧ Below w.heap.size w w' := by
 have h := check_any t hu he hv
 rw [hb] at h
 exact h
theorem new_yes (t : Tb) (hb : canBe t = true) (hu : I64 t.u) (he : I64 t.e) {a : Option Addr} {c0 : Nat} {w : World} (hv : EntAt w (.slice a t.es.length c0) t.es) : Calls Tryz.prog 25 #[tbV t (.slice a t.es.length c0)] w fun e w' => ∃ r, e = .returned r ∧ (∃ b c, r = .tuple #[.pointer (some ⟨b, 0, none⟩), .int .i64 0] ∧ w.heap.size ≤ c ∧ c < b ∧ Lp w' b c none t 0) ∧ Below w.heap.size w w' := by
 have hn := can_len hb
 have hpos := (can_num hb).2.2
 refine calls_Wp (args := [_]) (n := 18) Tryz.func25 rfl rfl (by simp) ?_
 refine Wp.seq ?_
 refine wR [0, 1, 2] ?_
 refine sE (fun bk1 w1 kb1 lw1 => ?_)
 try replace vm := vm.later lw1
 refine sZ 2 ?_
 refine Wp.seq ?_
 refine Wp.seq ?_
 refine Wp.old (fun lo => ?_)
 have tb := hv.later lo
 clear lo
 refine wQ 1 ?_
 refine sT (check_yes hb hu he tb) ?_
 rintro v w2 rfl lw2
 replace tb := tb.later lw2
 try replace vm := vm.later lw2
 refine sZ 5 ?_
 refine qQ 1 ?_
 refine f_neq rfl rfl rfl rfl rfl (by omega) ?_
 refine vOrd_nil ?_
 refine Wp.condF rfl rfl ?_
 refine Wp.skip ?_
 refine Wp.seq ?_
 refine Wp.old (fun lo4 => ?_)
 have hs4 := lo4.size
 refine Wp.old (fun lo => ?_)
 have tb := hv.later lo
 clear lo
 refine wQ 1 ?_
 refine sT (copied_any t tb hpos hn) ?_
 rintro v w3 ⟨cm, rfl, hcm, vm⟩ lw3
 replace tb := tb.later lw3
 try replace vm := vm.later lw3
 have qm := vm.lt
 refine sB ?_
 refine sE (fun bk17 wk17 kb17 lk17 => ?_)
 replace vm := vm.later lk17
 refine sZ 2 ?_
 refine Wp.var (h := 17) rfl (fun v17 => ?_)
 refine Wp.ret ⟨.inr rfl, fun lW => ⟨_, ⟨_, _, res_ptr (P := Tryz.prog) rfl, res_tmp (P := Tryz.prog) rfl rfl, rfl⟩, _, rfl, ?_, lW⟩⟩
 clear lW
 exact ⟨bk17, cm, rfl, by omega, by omega, 0, .slice none 0 0, v17, vm, by omega, .inl ⟨rfl, rfl, rfl⟩⟩
theorem new_no (t : Tb) (hb : canBe t = false) (hu : I64 t.u) (he : I64 t.e) {a : Option Addr} {c0 : Nat} {w : World} (hv : EntAt w (.slice a t.es.length c0) t.es) : Calls Tryz.prog 25 #[tbV t (.slice a t.es.length c0)] w fun e w' => ∃ r, e = .returned r ∧ r = .tuple #[.pointer none, .int .i64 10] ∧ Below w.heap.size w w' := by
 refine calls_Wp (args := [_]) (n := 18) Tryz.func25 rfl rfl (by simp) ?_
 refine Wp.seq ?_
 refine wR [0, 1, 2] ?_
 refine sE (fun bk1 w1 kb1 lw1 => ?_)
 refine sZ 2 ?_
 refine Wp.seq ?_
 refine Wp.seq ?_
 refine Wp.old (fun lo => ?_)
 have tb := hv.later lo
 clear lo
 refine wQ 1 ?_
 refine sT (check_no hb hu he tb) ?_
 rintro v w2 rfl lw2
 replace tb := tb.later lw2
 refine sZ 5 ?_
 refine qQ 1 ?_
 refine t_neq rfl rfl rfl rfl rfl (by omega) ?_
 refine vOrd_nil ?_
 refine Wp.condT rfl rfl ?_
 refine qZ ?_
 refine Wp.ret ⟨.inr rfl, fun lW => ⟨_, ⟨_, _, res_tmp (P := Tryz.prog) rfl rfl, res_tmp (P := Tryz.prog) rfl rfl, rfl⟩, _, rfl, ?_, lW⟩⟩
 clear lW
 rfl
theorem once_any {t : Tb} {b c : Nat} {k d : Int} {u : Value} {R : Option Nat} {w : World} (hb : canBe t = true) (hv : Var w b (leapC t c k d 0 u)) (hE : Var w c (entC t.es)) (hcb : c < b) (hd : (d = 0 ∧ u = .slice none 0 0 ∧ R = none) ∨ (d = 1 ∧ ∃ r, R = some r ∧ Eras w b r u t.es)) :
  Calls Tryz.prog 78 #[.pointer (some ⟨b, 4, none⟩), .func (.func 79) #[.pointer (some ⟨b, 0, none⟩)] #[]] w fun e w' => ∃ v, e = .returned v ∧ (∃ cs', (v = .tuple #[] ∧ ∃ u' r, cs' = leapC t c k 1 0 u' ∧ Eras w' b r u' t.es ∧ Nx w R (some r)) ∧ Var w' b cs') ∧ w.grownBy w' (some b) := by
 rcases hd with ⟨rfl, rfl, rfl⟩ | ⟨rfl, r, rfl, hEr⟩
 ·obtain ⟨v1, s1⟩ := hv.setCell 5 (.int .i32 1)
  have hs := split_any (k := k) hb v1 (hE.sto s1 (by omega)) hcb
  have g1 := grown_of_stored s1
  refine (do_first b 4 ⟨b, 0, none⟩ (fun w2 => (∃ u r, Var w2 b (leapC t c k 0 1 u) ∧ Eras w2 b r u t.es ∧ w.heap.size ≤ r) ∧ w.grownBy w2 (some b)) w ((cell_var hv 4).trans rfl) ((cell_var hv 5).trans rfl) (hv.unfrozen 5) (hs.mono ?_)).mono ?_
  ·rintro e w2 ⟨v, rfl, ⟨cs', ⟨rfl, u, r, rfl, hEr, hr⟩, v2⟩, g2⟩
   refine ⟨rfl, ⟨⟨u, r, v2, hEr, by rw [s1.size] at hr; exact hr⟩, grown_then g1 g2⟩, (cell_var v2 4).trans rfl, (cell_var v2 5).trans rfl, v2.unfrozen 4, v2.unfrozen 5⟩
  ·rintro e w' ⟨rfl, w2, ⟨⟨u, r, v2, hEr, hr⟩, g2⟩, rfl⟩
   obtain ⟨v3, s3⟩ := v2.drew.setCell 4 (.int .u32 1)
   obtain ⟨v4, s4⟩ := v3.setCell 5 (.int .i32 0)
   have g3 := grown_then (grown_then (drew_grown w2 (some b)) (grown_of_stored s3)) (grown_of_stored s4)
   exact ⟨_, rfl, ⟨_, ⟨rfl, u, r, rfl, hEr.grown g3, .inr ⟨r, rfl, hr⟩⟩, v4⟩, grown_then g2 g3⟩
 ·refine (do_done b 4 1 (by decide) _ w ((cell_var hv 4).trans rfl)).mono ?_
  rintro e w' ⟨rfl, rfl⟩
  exact ⟨_, rfl, ⟨_, ⟨rfl, u, r, rfl, hEr, .inl rfl⟩, hv⟩, grown_of_later (Later.refl _) _⟩
theorem once_at {t : Tb} {b c : Nat} {k d : Int} {u : Value} {R : Option Nat} {w : World} (hb : canBe t = true) (hE : Var w c (entC t.es)) (hcb : c < b) (hd : (d = 0 ∧ u = .slice none 0 0 ∧ R = none) ∨ (d = 1 ∧ ∃ r, R = some r ∧ Eras w b r u t.es)) {w1 : World} (g : w.grownBy w1 (some b)) (hv : Var w1 b (leapC t c k d 0 u)) :
  Calls Tryz.prog 78 #[.pointer (some ⟨b, 4, none⟩), .func (.func 79) #[.pointer (some ⟨b, 0, none⟩)] #[]] w1 fun e w' => ∃ v, e = .returned v ∧ (∃ cs', (v = .tuple #[] ∧ ∃ u' r, cs' = leapC t c k 1 0 u' ∧ Eras w' b r u' t.es ∧ Nx w R (some r)) ∧ Var w' b cs') ∧ w1.grownBy w' (some b) := by
 refine (once_any (R := R) hb hv (hE.grown g (by simp; omega)) hcb (hd.imp id (fun ⟨h1, r, h2, h3⟩ => ⟨h1, r, h2, h3.grown g⟩))).mono ?_
 rintro e w' ⟨v, h1, ⟨cs', ⟨h2, u', r, h3, h4, h5⟩, h6⟩, h7⟩
 refine ⟨v, h1, ⟨cs', ⟨h2, u', r, h3, h4, ?_⟩, h6⟩, h7⟩
 rcases h5 with h5 | ⟨r', h5, h8⟩
 ·exact .inl h5
 ·exact .inr ⟨r', h5, Nat.le_trans g.size h8⟩

theorem known_nil {w : World} : Calls Tryz.prog 49 #[.pointer none] w fun e w' => ∃ r, e = .returned r ∧ r = .slice none 0 0 ∧ Below w.heap.size w w' := by
 refine calls_Wp (args := [_]) (n := 15) Tryz.func49 rfl rfl (by simp) ?_
 refine qZ ?_
 refine Wp.seq ?_
 refine qQ 1 ?_
 refine s_nilEq none rfl rfl rfl rfl rfl ?_
 refine vOrd_nil ?_
 refine Wp.condT rfl rfl ?_
 refine qZ ?_
 refine Wp.ret ⟨.inr rfl, fun lW => ⟨_, res_tmp (P := Tryz.prog) rfl rfl, _, rfl, ?_, lW⟩⟩
 clear lW
 rfl
theorem known_any {t : Tb} {b c : Nat} {R : Option Nat} {k : Int} {w : World} (hb : canBe t = true) (hL : Lp w b c R t k) : Calls Tryz.prog 49 #[.pointer (some ⟨b, 0, none⟩)] w fun e w' => ∃ v, e = .returned v ∧ (∃ cs', (∃ r, cs' = leapC t c k 1 0 v ∧ Nx w R (some r) ∧ Eras w' b r v t.es ∧ Var w' c (entC t.es) ∧ c < b) ∧ Var w' b cs') ∧ w.grownBy w' (some b) := by
 obtain ⟨d, u, hv, hE, hcb, hd⟩ := hL
 have hbw := hv.lt
 have hcw := hE.lt
 refine calls_WpH (args := []) (n := 15) hv Tryz.func49 rfl rfl (by simp) ?_
 refine qZ ?_
 refine Wp.seq ?_
 refine qQ 1 ?_
 refine s_nilEq (some ⟨b, 0, none⟩) rfl rfl rfl rfl rfl ?_
 refine vOrd_nil ?_
 refine Wp.condF rfl rfl ?_
 refine Wp.skip ?_
 refine Wp.seq ?_
 refine Wp.oldH (fun lo => ?_)
 refine wQ 4 ?_
 refine s_mkfun1 rfl rfl rfl rfl ?_
 refine s_callH 899 rfl rfl rfl (by kernel_rfl) rfl rfl (fun vr => once_at hb hE hcb hd lo vr) ?_
 rintro v cs3 w3 ⟨rfl, u1, r1, rfl, hEr, hNx⟩ gw3 vw3
 refine vOrd_nil ?_
 refine qZ ?_
 refine Wp.ret ⟨.inr rfl, fun mW lW => ⟨_, res_tmp (P := Tryz.prog) rfl rfl, _, rfl, ?_, lW⟩⟩
 exact ⟨_, ⟨r1, rfl, hNx, hEr, hE.grown lW (by simp; omega), hcb⟩, mW 899 _ _ rfl⟩

theorem table_any {t : Tb} {b c : Nat} {R : Option Nat} {k : Int} {w : World} (hb : canBe t = true) (hL : Lp w b c R t k) : Calls Tryz.prog 15 #[.pointer (some ⟨b, 0, none⟩)] w fun e w' => ∃ r, e = .returned r ∧ (∃ q, r = tbV t (.slice (some ⟨q, 0, none⟩) t.es.length t.es.length) ∧ w.heap.size ≤ q ∧ Var w' q (entC t.es)) ∧ Below w.heap.size w w' := by
 have hn := can_len hb
 have hpos := (can_num hb).2.2
 have hall := fun j => can_all hb (j := j)
 refine calls_Wp (args := [_]) (n := 11) Tryz.func15 rfl rfl (by simp) ?_
 refine Wp.seq ?_
 refine wR [0] ?_
 refine sO (fun bk1 w1 kb1 lw1 => ?_)
 refine vOrd_nil ?_
 refine Wp.seq ?_
 refine qQ 1 ?_
 refine s_nilEq (some ⟨b, 0, none⟩) rfl rfl rfl rfl rfl ?_
 refine vOrd_nil ?_
 refine Wp.condF rfl rfl ?_
 refine Wp.skip ?_
 refine Wp.seq ?_
 refine Wp.old (fun lo3 => ?_)
 have hs3 := lo3.size
 obtain ⟨d, u, hv, hE, _, _⟩ := hL.later lo3
 refine Wp.var (h := 2) rfl (fun v2 => ?_)
 have q2 := v2.lt
 refine wQ 1 ?_
 refine s_nilV rfl rfl rfl rfl ?_
 refine s_fieldV 0 rfl rfl rfl rfl 0 rfl rfl ?_
 refine x_ldA [.int .i64 t.u, .int .i64 t.e, .slice (some ⟨c, 0, none⟩) t.es.length t.es.length] rfl rfl rfl rfl rfl rfl hv.lt (fun j x hj => ?_) ?_
 ·match j, hj with
  | 0, hj => exact (cell_var hv 0).trans hj
  | 1, hj => exact (cell_var hv 1).trans hj
  | 2, hj => exact (cell_var hv 2).trans hj
 refine sT (copied_any t (ents_var hE hall) hpos hn) ?_
 rintro v w10 ⟨cm, rfl, hcm, vm⟩ lw10
 refine sS (fun w5 sw5 vw5 => ?_)
 replace vm := vm.sto sw5 (by omega)
 refine vOrd_nil ?_
 refine Wp.ret ⟨.inr rfl, fun lW => ⟨_, res_cell rfl rfl rfl rfl, _, rfl, ?_, lW⟩⟩
 clear lW
 exact ⟨cm, rfl, by omega, vm⟩
theorem first_any {t : Tb} {b c : Nat} {R : Option Nat} {k : Int} {w : World} (hb : canBe t = true) (hL : Lp w b c R t k) : Calls Tryz.prog 26 #[.pointer (some ⟨b, 0, none⟩)] w fun e w' => ∃ v, e = .returned v ∧ (∃ cs', (v = .int .i64 (dayA t.es 1) ∧ ∃ R', Nx w R R' ∧ Lp w' b c R' t (k)) ∧ Var w' b cs') ∧ w.grownBy w' (some b) := by
 have hpos := (can_num hb).2.2
 obtain ⟨x, hx⟩ : ∃ x, t.es[0]? = some x := ⟨_, List.getElem?_eq_getElem hpos⟩
 obtain ⟨cs0, hv⟩ := hL.var
 refine calls_WpH (args := []) (n := 13) hv Tryz.func26 rfl rfl (by simp) ?_
 refine qZ ?_
 refine qQ 1 ?_
 refine s_callH 899 rfl rfl rfl (by kernel_rfl) rfl rfl (fun vr => known_any hb hL) ?_
 rintro v cs1 w1 ⟨r1, rfl, hNx, hEr, hE, hcb⟩ gw1 vw1
 obtain ⟨cr1, rfl, hcell⟩ := hEr.at
 obtain ⟨c0, _⟩ := hcell 0 x hx
 clear hL
 refine sZ 1 ?_
 refine Wp.seq ?_
 refine qQ 1 ?_
 refine x_len rfl rfl rfl rfl rfl ?_
 refine f_eql rfl rfl rfl rfl rfl (by omega) ?_
 refine vOrd_nil ?_
 refine Wp.condF rfl rfl ?_
 refine Wp.skip ?_
 refine qQ 1 ?_
 refine s_idx (sz := 5) 0 rfl rfl rfl rfl rfl rfl rfl (by omega) (by omega) (by omega) ?_
 refine s_fieldV 0 rfl rfl rfl rfl 0 rfl rfl ?_
 refine x_ldc (v := .int .i64 (dayE x)) rfl rfl rfl rfl rfl c0 ?_
 refine sZ 1 ?_
 refine Wp.ret ⟨.inr rfl, fun mW lW => ⟨_, res_tmp (P := Tryz.prog) rfl rfl, _, rfl, ?_, lW⟩⟩
 exact ⟨_, ⟨by rw [(A_at hx).1], some r1, hNx, 1, _, mW 899 _ _ rfl, hE, hcb, .inr ⟨rfl, r1, rfl, hEr⟩⟩, mW 899 _ _ rfl⟩
end Go.Proofs.YtdpodbfamgafiaaGreat
