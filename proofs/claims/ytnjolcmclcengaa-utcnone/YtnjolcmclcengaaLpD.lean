/-
  Leap seconds: the calls of leaps, by what they answer and what they leave. Of tables that may be; what is asked less than 1000000 times.
-/
import Derived.Test.YtnjolcmclcengaaLpC
namespace Go.Proofs.Ytnjolcmclcengaa
open Go.RowKit
set_option maxRecDepth 100000

theorem check_yes {t : Tb} (hb : canBe t = true) (hu : I64 t.u) (he : I64 t.e) {v : Value} {w : World} (hv : EntAt w v t.es) : Calls Try.prog 14 #[tbV t v] w fun e w' => ∃ r, e = .returned r ∧ r = .tuple #[.int .i64 0, .int .i64 0] ∧ Below w.heap.size w w' := by
  have h := check_any t hu he hv
  rw [can_place hb, hb] at h
  exact h
theorem check_no {t : Tb} (hb : canBe t = false) (hu : I64 t.u) (he : I64 t.e) {v : Value} {w : World} (hv : EntAt w v t.es) : Calls Try.prog 14 #[tbV t v] w fun e w' => ∃ r, e = .returned r ∧ r = .tuple #[.int .i64 (place t : Int), .int .i64 10] ∧ Below w.heap.size w w' := by
  have h := check_any t hu he hv
  rw [hb] at h
  exact h
theorem new_yes (t : Tb) (hb : canBe t = true) (hu : I64 t.u) (he : I64 t.e) {a : Option Addr} {c0 : Nat} {w : World} (hv : EntAt w (.slice a t.es.length c0) t.es) : Calls Try.prog 6 #[tbV t (.slice a t.es.length c0)] w fun e w' => ∃ r, e = .returned r ∧ (∃ b c, r = .tuple #[.pointer (some ⟨b, 0, none⟩), .int .i64 0] ∧ w.heap.size ≤ c ∧ c < b ∧ Lp w' b c none t 0) ∧ Below w.heap.size w w' := by
  have hn := can_len hb
  have hpos := (can_num hb).2.2
  refine calls_Wp (args := [_]) (n := 18) Try.func6 rfl rfl (by simp) ?_
  refine Wp.seq ?_
  refine Wp.region [0, 1, 2] (by kernel_rfl) (by kernel_rfl) ?_
  refine s_box rfl rfl rfl rfl rfl rfl (fun bk1 w1 kb1 lw1 => ?_)
  try replace vm := vm.later lw1
  refine s_assign rfl rfl rfl rfl ?_
  refine s_assign rfl rfl rfl rfl ?_
  refine vOrd_nil ?_
  refine Wp.seq ?_
  refine Wp.seq ?_
  refine Wp.old (fun lo => ?_)
  have tb := hv.later lo
  clear lo
  refine Wp.region [0, 1, 2, 3, 4, 5, 6] (by kernel_rfl) (by kernel_rfl) ?_
  refine s_load rfl rfl rfl rfl rfl rfl rfl ?_
  refine s_callT rfl rfl rfl (by kernel_rfl) rfl (check_yes hb hu he tb) ?_
  rintro v w2 rfl lw2
  replace tb := tb.later lw2
  try replace vm := vm.later lw2
  refine s_move rfl rfl rfl rfl ?_
  refine s_extract rfl rfl rfl rfl rfl ?_
  refine s_extract rfl rfl rfl rfl rfl ?_
  refine s_assign rfl rfl rfl rfl ?_
  refine s_assign rfl rfl rfl rfl ?_
  refine vOrd_nil ?_
  refine Wp.seq ?_
  refine Wp.region [0, 1] (by kernel_rfl) (by kernel_rfl) ?_
  refine s_move rfl rfl rfl rfl ?_
  refine f_neq rfl rfl rfl rfl rfl (by omega) ?_
  refine vOrd_nil ?_
  refine Wp.condF rfl rfl ?_
  refine Wp.skip ?_
  refine Wp.seq ?_
  refine Wp.old (fun lo4 => ?_)
  have hs4 := lo4.size
  refine Wp.old (fun lo => ?_)
  have tb := hv.later lo
  clear lo
  refine Wp.region [0, 1, 2, 3, 4, 5] (by kernel_rfl) (by kernel_rfl) ?_
  refine s_load rfl rfl rfl rfl rfl rfl rfl ?_
  refine s_callT rfl rfl rfl (by kernel_rfl) rfl (copied_any t tb hpos hn) ?_
  rintro v w3 ⟨cm, rfl, hcm, vm⟩ lw3
  replace tb := tb.later lw3
  try replace vm := vm.later lw3
  have qm := vm.lt
  refine s_build rfl rfl rfl rfl rfl (by kernel_rfl) ?_
  refine s_box rfl rfl rfl rfl rfl rfl (fun bk17 wk17 kb17 lk17 => ?_)
  replace vm := vm.later lk17
  refine s_assign rfl rfl rfl rfl ?_
  refine s_assign rfl rfl rfl rfl ?_
  refine vOrd_nil ?_
  refine Wp.var (h := 17) rfl (fun v17 => ?_)
  refine Wp.ret ⟨.inr rfl, fun lW => ⟨_, ⟨_, _, res_ptr (P := Try.prog) rfl, res_tmp (P := Try.prog) rfl rfl, rfl⟩, _, rfl, ?_, lW⟩⟩
  clear lW
  exact ⟨bk17, cm, rfl, by omega, by omega, 0, .slice none 0 0, v17, vm, by omega, .inl ⟨rfl, rfl, rfl⟩⟩
theorem new_no (t : Tb) (hb : canBe t = false) (hu : I64 t.u) (he : I64 t.e) {a : Option Addr} {c0 : Nat} {w : World} (hv : EntAt w (.slice a t.es.length c0) t.es) : Calls Try.prog 6 #[tbV t (.slice a t.es.length c0)] w fun e w' => ∃ r, e = .returned r ∧ r = .tuple #[.pointer none, .int .i64 10] ∧ Below w.heap.size w w' := by
  refine calls_Wp (args := [_]) (n := 18) Try.func6 rfl rfl (by simp) ?_
  refine Wp.seq ?_
  refine Wp.region [0, 1, 2] (by kernel_rfl) (by kernel_rfl) ?_
  refine s_box rfl rfl rfl rfl rfl rfl (fun bk1 w1 kb1 lw1 => ?_)
  refine s_assign rfl rfl rfl rfl ?_
  refine s_assign rfl rfl rfl rfl ?_
  refine vOrd_nil ?_
  refine Wp.seq ?_
  refine Wp.seq ?_
  refine Wp.old (fun lo => ?_)
  have tb := hv.later lo
  clear lo
  refine Wp.region [0, 1, 2, 3, 4, 5, 6] (by kernel_rfl) (by kernel_rfl) ?_
  refine s_load rfl rfl rfl rfl rfl rfl rfl ?_
  refine s_callT rfl rfl rfl (by kernel_rfl) rfl (check_no hb hu he tb) ?_
  rintro v w2 rfl lw2
  replace tb := tb.later lw2
  refine s_move rfl rfl rfl rfl ?_
  refine s_extract rfl rfl rfl rfl rfl ?_
  refine s_extract rfl rfl rfl rfl rfl ?_
  refine s_assign rfl rfl rfl rfl ?_
  refine s_assign rfl rfl rfl rfl ?_
  refine vOrd_nil ?_
  refine Wp.seq ?_
  refine Wp.region [0, 1] (by kernel_rfl) (by kernel_rfl) ?_
  refine s_move rfl rfl rfl rfl ?_
  refine t_neq rfl rfl rfl rfl rfl (by omega) ?_
  refine vOrd_nil ?_
  refine Wp.condT rfl rfl ?_
  refine Wp.seq ?_
  refine Wp.region [0, 1, 2] (by kernel_rfl) (by kernel_rfl) ?_
  refine s_move rfl rfl rfl rfl ?_
  refine s_assign rfl rfl rfl rfl ?_
  refine s_assign rfl rfl rfl rfl ?_
  refine vOrd_nil ?_
  refine Wp.ret ⟨.inr rfl, fun lW => ⟨_, ⟨_, _, res_tmp (P := Try.prog) rfl rfl, res_tmp (P := Try.prog) rfl rfl, rfl⟩, _, rfl, ?_, lW⟩⟩
  clear lW
  rfl
theorem once_any {t : Tb} {b c : Nat} {k d : Int} {u : Value} {R : Option Nat} {w : World} (hb : canBe t = true) (hv : Var w b (leapC t c k d 0 u)) (hE : Var w c (entC t.es)) (hcb : c < b) (hd : (d = 0 ∧ u = .slice none 0 0 ∧ R = none) ∨ (d = 1 ∧ ∃ r, R = some r ∧ Eras w b r u t.es)) :
    Calls Try.prog 57 #[.pointer (some ⟨b, 4, none⟩), .func (.func 58) #[.pointer (some ⟨b, 0, none⟩)] #[]] w fun e w' => ∃ v, e = .returned v ∧ (∃ cs', (v = .tuple #[] ∧ ∃ u' r, cs' = leapC t c k 1 0 u' ∧ Eras w' b r u' t.es ∧ Nx w R (some r)) ∧ Var w' b cs') ∧ w.grownBy w' (some b) := by
  rcases hd with ⟨rfl, rfl, rfl⟩ | ⟨rfl, r, rfl, hEr⟩
  · obtain ⟨v1, s1⟩ := hv.setCell 5 (.int .i32 1)
    have hs := split_any (k := k) hb v1 (hE.sto s1 (by omega)) hcb
    have g1 := grown_of_stored s1
    refine (do_first b 4 ⟨b, 0, none⟩ (fun w2 => (∃ u r, Var w2 b (leapC t c k 0 1 u) ∧ Eras w2 b r u t.es ∧ w.heap.size ≤ r) ∧ w.grownBy w2 (some b)) w ((cell_var hv 4).trans rfl) ((cell_var hv 5).trans rfl) (hv.unfrozen 5) (hs.mono ?_)).mono ?_
    · rintro e w2 ⟨v, rfl, ⟨cs', ⟨rfl, u, r, rfl, hEr, hr⟩, v2⟩, g2⟩
      refine ⟨rfl, ⟨⟨u, r, v2, hEr, by rw [s1.size] at hr; exact hr⟩, grown_then g1 g2⟩, (cell_var v2 4).trans rfl, (cell_var v2 5).trans rfl, v2.unfrozen 4, v2.unfrozen 5⟩
    · rintro e w' ⟨rfl, w2, ⟨⟨u, r, v2, hEr, hr⟩, g2⟩, rfl⟩
      obtain ⟨v3, s3⟩ := v2.drew.setCell 4 (.int .u32 1)
      obtain ⟨v4, s4⟩ := v3.setCell 5 (.int .i32 0)
      have g3 := grown_then (grown_then (drew_grown w2 (some b)) (grown_of_stored s3)) (grown_of_stored s4)
      exact ⟨_, rfl, ⟨_, ⟨rfl, u, r, rfl, hEr.grown g3, .inr ⟨r, rfl, hr⟩⟩, v4⟩, grown_then g2 g3⟩
  · refine (do_done b 4 1 (by decide) _ w ((cell_var hv 4).trans rfl)).mono ?_
    rintro e w' ⟨rfl, rfl⟩
    exact ⟨_, rfl, ⟨_, ⟨rfl, u, r, rfl, hEr, .inl rfl⟩, hv⟩, grown_of_later (Later.refl _) _⟩
theorem once_at {t : Tb} {b c : Nat} {k d : Int} {u : Value} {R : Option Nat} {w : World} (hb : canBe t = true) (hE : Var w c (entC t.es)) (hcb : c < b) (hd : (d = 0 ∧ u = .slice none 0 0 ∧ R = none) ∨ (d = 1 ∧ ∃ r, R = some r ∧ Eras w b r u t.es)) {w1 : World} (g : w.grownBy w1 (some b)) (hv : Var w1 b (leapC t c k d 0 u)) :
    Calls Try.prog 57 #[.pointer (some ⟨b, 4, none⟩), .func (.func 58) #[.pointer (some ⟨b, 0, none⟩)] #[]] w1 fun e w' => ∃ v, e = .returned v ∧ (∃ cs', (v = .tuple #[] ∧ ∃ u' r, cs' = leapC t c k 1 0 u' ∧ Eras w' b r u' t.es ∧ Nx w R (some r)) ∧ Var w' b cs') ∧ w1.grownBy w' (some b) := by
  refine (once_any (R := R) hb hv (hE.grown g (by simp; omega)) hcb (hd.imp id (fun ⟨h1, r, h2, h3⟩ => ⟨h1, r, h2, h3.grown g⟩))).mono ?_
  rintro e w' ⟨v, h1, ⟨cs', ⟨h2, u', r, h3, h4, h5⟩, h6⟩, h7⟩
  refine ⟨v, h1, ⟨cs', ⟨h2, u', r, h3, h4, ?_⟩, h6⟩, h7⟩
  rcases h5 with h5 | ⟨r', h5, h8⟩
  · exact .inl h5
  · exact .inr ⟨r', h5, Nat.le_trans g.size h8⟩

theorem known_nil {w : World} : Calls Try.prog 48 #[.pointer none] w fun e w' => ∃ r, e = .returned r ∧ r = .slice none 0 0 ∧ Below w.heap.size w w' := by
  refine calls_Wp (args := [_]) (n := 15) Try.func48 rfl rfl (by simp) ?_
  refine Wp.seq ?_
  refine Wp.region [0] (by kernel_rfl) (by kernel_rfl) ?_
  refine s_assign rfl rfl rfl rfl ?_
  refine vOrd_nil ?_
  refine Wp.seq ?_
  refine Wp.seq ?_
  refine Wp.region [0, 1] (by kernel_rfl) (by kernel_rfl) ?_
  refine s_move rfl rfl rfl rfl ?_
  refine s_nilEq none rfl rfl rfl rfl rfl ?_
  refine vOrd_nil ?_
  refine Wp.condT rfl rfl ?_
  refine Wp.seq ?_
  refine Wp.region [0] (by kernel_rfl) (by kernel_rfl) ?_
  refine s_assign rfl rfl rfl rfl ?_
  refine vOrd_nil ?_
  refine Wp.ret ⟨.inr rfl, fun lW => ⟨_, res_tmp (P := Try.prog) rfl rfl, _, rfl, ?_, lW⟩⟩
  clear lW
  rfl
theorem known_any {t : Tb} {b c : Nat} {R : Option Nat} {k : Int} {w : World} (hb : canBe t = true) (hL : Lp w b c R t k) : Calls Try.prog 48 #[.pointer (some ⟨b, 0, none⟩)] w fun e w' => ∃ v, e = .returned v ∧ (∃ cs', (∃ r, cs' = leapC t c k 1 0 v ∧ Nx w R (some r) ∧ Eras w' b r v t.es ∧ Var w' c (entC t.es) ∧ c < b) ∧ Var w' b cs') ∧ w.grownBy w' (some b) := by
  obtain ⟨d, u, hv, hE, hcb, hd⟩ := hL
  have hbw := hv.lt
  have hcw := hE.lt
  refine calls_WpH (args := []) (n := 15) hv Try.func48 rfl rfl (by simp) ?_
  refine Wp.seq ?_
  refine Wp.region [0] (by kernel_rfl) (by kernel_rfl) ?_
  refine s_assign rfl rfl rfl rfl ?_
  refine vOrd_nil ?_
  refine Wp.seq ?_
  refine Wp.seq ?_
  refine Wp.region [0, 1] (by kernel_rfl) (by kernel_rfl) ?_
  refine s_move rfl rfl rfl rfl ?_
  refine s_nilEq (some ⟨b, 0, none⟩) rfl rfl rfl rfl rfl ?_
  refine vOrd_nil ?_
  refine Wp.condF rfl rfl ?_
  refine Wp.skip ?_
  refine Wp.seq ?_
  refine Wp.oldH (fun lo => ?_)
  refine Wp.region [0, 1, 2, 3, 4, 5] (by kernel_rfl) (by kernel_rfl) ?_
  refine s_move rfl rfl rfl rfl ?_
  refine s_nil rfl rfl rfl rfl ?_
  refine s_field 4 rfl rfl rfl rfl rfl ?_
  refine s_move rfl rfl rfl rfl ?_
  refine s_mkfun1 rfl rfl rfl rfl ?_
  refine s_callH 899 rfl rfl rfl (by kernel_rfl) rfl rfl (fun vr => once_at hb hE hcb hd lo vr) ?_
  rintro v cs3 w3 ⟨rfl, u1, r1, rfl, hEr, hNx⟩ gw3 vw3
  refine vOrd_nil ?_
  refine Wp.seq ?_
  refine Wp.region [0, 1, 2, 3, 4] (by kernel_rfl) (by kernel_rfl) ?_
  refine s_move rfl rfl rfl rfl ?_
  refine s_nil rfl rfl rfl rfl ?_
  refine s_field 7 rfl rfl rfl rfl rfl ?_
  refine s_load rfl rfl rfl rfl rfl rfl rfl ?_
  refine s_assign rfl rfl rfl rfl ?_
  refine vOrd_nil ?_
  refine Wp.ret ⟨.inr rfl, fun mW lW => ⟨_, res_tmp (P := Try.prog) rfl rfl, _, rfl, ?_, lW⟩⟩
  exact ⟨_, ⟨r1, rfl, hNx, hEr, hE.grown lW (by simp; omega), hcb⟩, mW 899 _ _ rfl⟩
theorem known_at {t : Tb} {b c : Nat} {R : Option Nat} {k : Int} {w1 : World} {cs : List Value} (hb : canBe t = true) (hL : Lp w1 b c R t k) (_ : Var w1 b cs) : Calls Try.prog 48 #[.pointer (some ⟨b, 0, none⟩)] w1 fun e w' => ∃ v, e = .returned v ∧ (∃ cs', (∃ r, cs' = leapC t c k 1 0 v ∧ Nx w1 R (some r) ∧ Eras w' b r v t.es ∧ Var w' c (entC t.es) ∧ c < b) ∧ Var w' b cs') ∧ w1.grownBy w' (some b) := known_any hb hL

end Go.Proofs.Ytnjolcmclcengaa
