/-
 The contracts of rubber's small functions: within, mayBe, countOf, beginning, less, plus, and of a part: base, rate, instant, count, endsOnLast. Of numbers that are bounded as the chapter says.
-/
import Derived.Test.YthihioakjpmnbaaGreatSegR
import Derived.Test.YthihioakjpmnbaaGreatDayA
import Derived.Test.YthihioakjpmnbaaGreatEntA
namespace Go.Proofs.YthihioakjpmnbaaGreat
open Go.RowKit
set_option maxRecDepth 100000

theorem bwithin_any (n lo hi : Int) {w : World} : Calls Tryz.prog 91 #[.int .i64 n, .int .i64 lo, .int .i64 hi] w fun e w' => ∃ r, e = .returned r ∧ r = .bool (decide (lo ≤ n ∧ n ≤ hi)) ∧ Below w.heap.size w w' := by
 refine calls_Wp (args := [_, _, _]) (n := 15) Tryz.func91 rfl rfl (by simp) ?_
 refine qZ ?_
 refine qQ 2 ?_
 refine p_geq rfl rfl rfl rfl rfl (fun h9 => ?_) (fun h9 => ?_)
 ·refine sQ 3 ?_
  refine p_leq rfl rfl rfl rfl rfl (fun h13 => ?_) (fun h13 => ?_)
  ·refine sZ 2 ?_
   refine Wp.ret ⟨.inr rfl, fun lW => ⟨_, res_tmp (P := Tryz.prog) rfl rfl, _, rfl, ?_, lW⟩⟩
   clear lW
   rw [decide_eq_true (show lo ≤ n ∧ n ≤ hi by omega)]
  ·refine sZ 2 ?_
   refine Wp.ret ⟨.inr rfl, fun lW => ⟨_, res_tmp (P := Tryz.prog) rfl rfl, _, rfl, ?_, lW⟩⟩
   clear lW
   rw [decide_eq_false (show ¬ (lo ≤ n ∧ n ≤ hi) by omega)]
 ·refine sZ 6 ?_
  refine Wp.ret ⟨.inr rfl, fun lW => ⟨_, res_tmp (P := Tryz.prog) rfl rfl, _, rfl, ?_, lW⟩⟩
  clear lW
  rw [decide_eq_false (show ¬ (lo ≤ n ∧ n ≤ hi) by omega)]
theorem bmay_any (d s a : Int) {w : World} : Calls Tryz.prog 108 #[.agg #[.int .i64 d, .int .i64 s, .int .i64 a]] w fun e w' => ∃ r, e = .returned r ∧ r = .bool (isU s a) ∧ Below w.heap.size w w' := by
 refine calls_Wp (args := [_]) (n := 11) Tryz.func108 rfl rfl (by simp) ?_
 refine Wp.seq ?_
 refine wR [0, 1] ?_
 refine sE (fun bk1 w1 kb1 lw1 => ?_)
 refine sZ 1 ?_
 refine qQ 2 ?_
 refine sT (bwithin_any (s) (0) (86400)) ?_
 rintro v w2 rfl lw2
 rcases Bool.eq_false_or_eq_true (decide ((0) ≤ s ∧ s ≤ (86400))) with h5 | h5
 ·rw [h5]
  replace h5 := of_decide_eq_true h5
  refine sQ 3 ?_
  refine sT (bwithin_any (a) (0) (999999999999999999)) ?_
  rintro v w3 rfl lw3
  rcases Bool.eq_false_or_eq_true (decide ((0) ≤ a ∧ a ≤ (999999999999999999))) with h9 | h9
  ·rw [h9]
   replace h9 := of_decide_eq_true h9
   refine sZ 2 ?_
   refine Wp.ret ⟨.inr rfl, fun lW => ⟨_, res_tmp (P := Tryz.prog) rfl rfl, _, rfl, ?_, lW⟩⟩
   clear lW
   rw [isU_iff.2 (by omega)]
  ·rw [h9]
   replace h9 := of_decide_eq_false h9
   refine sZ 2 ?_
   refine Wp.ret ⟨.inr rfl, fun lW => ⟨_, res_tmp (P := Tryz.prog) rfl rfl, _, rfl, ?_, lW⟩⟩
   clear lW
   rw [isU_no.2 (by omega)]
 ·rw [h5]
  replace h5 := of_decide_eq_false h5
  refine sZ 6 ?_
  refine Wp.ret ⟨.inr rfl, fun lW => ⟨_, res_tmp (P := Tryz.prog) rfl rfl, _, rfl, ?_, lW⟩⟩
  clear lW
  rw [isU_no.2 (by omega)]
theorem bcount_any {d s a : Int} (hU : isU s a = true) (hd : -1048580 ≤ d ∧ d ≤ 1048580) {w : World} : Calls Tryz.prog 111 #[.agg #[.int .i64 d, .int .i64 s, .int .i64 a]] w fun e w' => ∃ r, e = .returned r ∧ IsW (cnt d s a) r ∧ Below w.heap.size w w' := by
 have hU' := isU_iff.1 hU
 obtain ⟨dq, hdq⟩ : ∃ q, d + s / 86400 = q := ⟨_, rfl⟩
 obtain ⟨sr, hsr⟩ : ∃ q, s % 86400 = q := ⟨_, rfl⟩
 obtain ⟨e1, e2⟩ := lab_ok (d := dq) (isL_iff.2 ⟨by omega, by omega, hU'.2.2⟩ : isL sr a = true) (inB_iff.2 ⟨by omega, by omega⟩)
 have e3 : cnt dq sr a = cnt d s a := by unfold cnt; omega
 rw [e3] at e2
 refine calls_Wp (args := [_]) (n := 22) Tryz.func111 rfl rfl (by simp) ?_
 refine Wp.seq ?_
 refine wR [0, 1] ?_
 refine sE (fun bk1 w1 kb1 lw1 => ?_)
 refine sO (fun bk2 w2 kb2 lw2 => ?_)
 refine vOrd_nil ?_
 refine Wp.seq ?_
 have h86 : (86400 : Int) ≠ 0 := by decide
 refine wQ 4 ?_
 refine a_quo rfl rfl rfl rfl rfl (by omega) (by omega) (by show _ ≤ (9223372036854775807 : Int); omega) ?_
 refine aP (-9223372036854775808) 9223372036854775807 ?_
 refine sQ 2 ?_
 refine a_rem rfl rfl rfl rfl rfl (by omega) (by omega) ?_
 refine sQ 2 ?_
 refine sB ?_
 refine sT (djoin_any (d := d + s / 86400) (s := s % 86400) (a := a) ⟨by omega, by omega⟩ ⟨by omega, by omega⟩ ⟨by omega, by omega⟩ _) ?_
 rintro v w3 ⟨ju, rfl, jh, jl, rfl, hj⟩ lw3
 rw [hdq, hsr, e2] at hj
 refine sQ 3 ?_
 refine sO (fun bk4 w4 kb4 lw4 => ?_)
 refine sS (fun w5 sw5 vw5 => ?_)
 refine sZ 1 ?_
 refine qQ 1 ?_
 refine sS (fun w6 sw6 vw6 => ?_)
 refine vOrd_nil ?_
 refine Wp.ret ⟨.inr rfl, fun lW => ⟨_, res_cell rfl rfl rfl rfl, _, rfl, ?_, lW⟩⟩
 clear lW
 exact ⟨_, _, rfl, hj⟩
theorem bbeg_any {n : Int} (hn : -1048580 ≤ n ∧ n ≤ 1048580) {w : World} : Calls Tryz.prog 93 #[.int .i64 n] w fun e w' => ∃ r, e = .returned r ∧ IsW (cnt n 0 0) r ∧ Below w.heap.size w w' := by
 refine calls_Wp (args := [_]) (n := 6) Tryz.func93 rfl rfl (by simp) ?_
 refine Wp.seq ?_
 refine wR [0] ?_
 refine sO (fun bk1 w1 kb1 lw1 => ?_)
 refine vOrd_nil ?_
 refine qQ 1 ?_
 refine sB ?_
 refine sT (bcount_any (d := n) (s := 0) (a := 0) rfl hn) ?_
 rintro v w2 ⟨jh, jl, rfl, hj⟩ lw2
 refine sS (fun w3 sw3 vw3 => ?_)
 refine vOrd_nil ?_
 refine Wp.ret ⟨.inr rfl, fun lW => ⟨_, res_cell rfl rfl rfl rfl, _, rfl, ?_, lW⟩⟩
 clear lW
 exact ⟨_, _, rfl, hj⟩
theorem bless_any {a b : Int} {u v : Value} (hu : IsW a u) (hv : IsW b v) (h0 : -170141183460469231731687303715884105728 ≤ a - b) (h1 : a - b < 170141183460469231731687303715884105728) {w : World} : Calls Tryz.prog 121 #[u, v] w fun e w' => ∃ r, e = .returned r ∧ IsW (a - b) r ∧ Below w.heap.size w w' := by
 obtain ⟨uh, ul, rfl, hu⟩ := hu
 obtain ⟨vh, vl, rfl, hv⟩ := hv
 obtain ⟨f1, f2⟩ := fit_ok (z := a - b) h0 h1
 refine calls_Wp (args := [_, _]) (n := 14) Tryz.func121 rfl rfl (by simp) ?_
 refine Wp.seq ?_
 refine wR [0, 1, 2] ?_
 refine sE (fun bk1 w1 kb1 lw1 => ?_)
 refine sE (fun bk2 w2 kb2 lw2 => ?_)
 refine sO (fun bk3 w3 kb3 lw3 => ?_)
 refine vOrd_nil ?_
 refine qQ 2 ?_
 refine sT (c_wsub ⟨_, _, rfl, hu⟩ ⟨_, _, rfl, hv⟩ _) ?_
 rintro v w4 ⟨su, rfl, sh, sl, rfl, hs⟩ lw4
 rw [f1] at hs
 refine sQ 3 ?_
 refine sO (fun bk5 w5 kb5 lw5 => ?_)
 refine sS (fun w6 sw6 vw6 => ?_)
 refine sZ 1 ?_
 refine qQ 1 ?_
 refine sS (fun w7 sw7 vw7 => ?_)
 refine vOrd_nil ?_
 refine Wp.ret ⟨.inr rfl, fun lW => ⟨_, res_cell rfl rfl rfl rfl, _, rfl, ?_, lW⟩⟩
 clear lW
 exact ⟨_, _, rfl, hs⟩
/-- A slice of Wides. -/
def WsAt (w : World) (v : Value) (l : List Int) : Prop := ∃ b, v = .slice (some ⟨b, 0, none⟩) l.length l.length ∧ ∀ (j : Nat) (z : Int), l[j]? = some z → ∃ h o : Int, w.cell? ⟨b, j * 2, none⟩ = some (.int .i64 h) ∧ w.cell? ⟨b, j * 2 + 1, none⟩ = some (.int .u64 o) ∧ WideIs h o z
theorem WsAt.later {w w' : World} {v : Value} {l : List Int} (h : WsAt w v l) (g : Later w w') : WsAt w' v l := by
 obtain ⟨b, h1, h2⟩ := h
 refine ⟨b, h1, fun j z hj => ?_⟩
 obtain ⟨x, y, k1, k2, k3⟩ := h2 j z hj
 exact ⟨x, y, cell_later g k1, cell_later g k2, k3⟩
theorem ws_two {w : World} {c : Nat} {e : TypeId} {a b c1 d z1 z2 : Int} (h : RowIs w c e [.int .i64 a, .int .u64 b, .int .i64 c1, .int .u64 d]) (k1 : WideIs a b z1) (k2 : WideIs c1 d z2) : WsAt w (.slice (some ⟨c, 0, none⟩) 2 2) [z1, z2] := by
 refine ⟨c, rfl, fun j z hj => ?_⟩
 match j, hj with
 | 0, hj => cases hj; exact ⟨_, _, by rw [cell_var h.var]; rfl, by rw [cell_var h.var]; rfl, k1⟩
 | 1, hj => cases hj; exact ⟨_, _, by rw [cell_var h.var]; rfl, by rw [cell_var h.var]; rfl, k2⟩
theorem ws_three {w : World} {c : Nat} {e : TypeId} {a b c1 d f g z1 z2 z3 : Int} (h : RowIs w c e [.int .i64 a, .int .u64 b, .int .i64 c1, .int .u64 d, .int .i64 f, .int .u64 g]) (k1 : WideIs a b z1) (k2 : WideIs c1 d z2) (k3 : WideIs f g z3) : WsAt w (.slice (some ⟨c, 0, none⟩) 3 3) [z1, z2, z3] := by
 refine ⟨c, rfl, fun j z hj => ?_⟩
 match j, hj with
 | 0, hj => cases hj; exact ⟨_, _, by rw [cell_var h.var]; rfl, by rw [cell_var h.var]; rfl, k1⟩
 | 1, hj => cases hj; exact ⟨_, _, by rw [cell_var h.var]; rfl, by rw [cell_var h.var]; rfl, k2⟩
 | 2, hj => cases hj; exact ⟨_, _, by rw [cell_var h.var]; rfl, by rw [cell_var h.var]; rfl, k3⟩
/-- The sum of the first k. -/
def psum (l : List Int) : Nat → Int
 | 0 => 0
 | k + 1 => psum l k + (l[k]?).getD 0
theorem bplus_any {l : List Int} {v : Value} {w : World} (hv : WsAt w v l) (hl : l.length ≤ 100) (hb : ∀ k, k ≤ l.length → -170141183460469231731687303715884105728 ≤ psum l k ∧ psum l k < 170141183460469231731687303715884105728) : Calls Tryz.prog 92 #[v] w fun e w' => ∃ r, e = .returned r ∧ IsW (psum l l.length) r ∧ Below w.heap.size w w' := by
 obtain ⟨b, rfl, hc⟩ := hv
 refine calls_Wp (args := [_]) (n := 21) Tryz.func92 rfl rfl (by simp) ?_
 refine Wp.seq ?_
 refine wR [0] ?_
 refine sO (fun bk1 w1 kb1 lw1 => ?_)
 refine vOrd_nil ?_
 refine Wp.seq ?_
 refine wR [0, 1, 2] ?_
 refine sB ?_
 refine sO (fun bk2 w2 kb2 lw2 => ?_)
 refine sS (fun w3 sw3 vw3 => ?_)
 refine vOrd_nil ?_
 refine Wp.seq ?_
 refine qQ 1 ?_
 refine x_len rfl rfl rfl rfl rfl ?_
 refine sZ 1 ?_
 refine Wp.block ?_
 refine Wp.loop (fun m st W => ∃ (i b2 b3 : Nat) (pi h o : Int), st = St.of [(2, .p 2 b2 0), (3, .p 3 b3 0), (7, .v (.slice (some ⟨b, 0, none⟩) l.length l.length)), (8, .v (.int .i64 (l.length : Int))), (9, .v (.int .i64 pi))] [(2, b2, [.int .i64 0, .int .u64 0]), (3, b3, [.int .i64 h, .int .u64 o])] ∧ pi = i ∧ i ≤ l.length ∧ WideIs h o (psum l i) ∧ m = l.length - i) ?_ ?_
 ·exact ⟨_, _, (St.of_le' (env := [(2, .p 2 _ 0), (3, .p 3 _ 0), (7, .v _), (8, .v _), (9, .v _)]) (mem := [(2, _, [_, _]), (3, _, [_, _])]) ⟨rfl, rfl, rfl, rfl, rfl, trivial⟩ ⟨rfl, rfl, trivial⟩), 0, _, _, _, 0, 0, rfl, rfl, Nat.zero_le _, by unfold WideIs; show _ ∧ _ ∧ _ ∧ _ ∧ (0 : Int) = _; omega, rfl⟩
 ·rintro k st w4 ⟨i, b2, b3, pi, h, o, rfl, hpi, hil, hsum, rfl⟩
  refine Wp.seq ?_
  refine wR [0] ?_
  refine p_lss rfl rfl rfl rfl rfl (fun h10 => ?_) (fun h10 => ?_)
  ·refine vOrd_nil ?_
   refine Wp.seq ?_
   refine Wp.condT rfl rfl ?_
   refine Wp.skip ?_
   refine Wp.seq ?_
   refine Wp.block ?_
   refine Wp.seq ?_
   refine Wp.old (fun lo => ?_)
   obtain ⟨z, hz⟩ : ∃ z, l[i]? = some z := ⟨_, List.getElem?_eq_getElem (by omega)⟩
   obtain ⟨zh, zl, c0, c1, hw⟩ := hc i z hz
   have hbi := hb (i + 1) (by omega)
   have e1 : psum l (i + 1) = psum l i + z := by show psum l i + (l[i]?).getD 0 = _; rw [hz]; rfl
   obtain ⟨f1, f2⟩ := fit_ok (z := psum l (i + 1)) hbi.1 hbi.2
   rw [e1] at f1 f2
   refine wR [0, 1, 2, 3] ?_
   refine sI (sz := 2) (i * 2) ?_
   refine x_ldA [.int .i64 zh, .int .u64 zl] rfl rfl rfl rfl rfl rfl (Nat.lt_of_lt_of_le (World.block_lt_of_cell? _ _ c0) lo.size) (fun j u hj => ?_) ?_
   ·match j, hj with
    | 0, hj => cases hj; exact cell_later lo c0
    | 1, hj => cases hj; exact cell_later lo c1
   refine sO (fun bk10 w10 kb10 lw10 => ?_)
   refine sS (fun w11 sw11 vw11 => ?_)
   refine vOrd_nil ?_
   refine wQ 2 ?_
   refine sT (c_wadd ⟨_, _, rfl, hsum⟩ ⟨_, _, rfl, hw⟩ _) ?_
   rintro v w12 ⟨su, rfl, sh, sl, rfl, hs⟩ lw12
   rw [f1, ← e1] at hs
   refine sQ 3 ?_
   refine sS (fun w13 sw13 vw13 => ?_)
   refine vOrd_nil ?_
   refine wR [0, 1] ?_
   refine aP (-9223372036854775808) 9223372036854775807 ?_
   refine sZ 1 ?_
   exact ⟨l.length - (i + 1), _, by omega, (St.of_le' (env := [(2, .p 2 _ 0), (3, .p 3 _ 0), (7, .v _), (8, .v _), (9, .v _)]) (mem := [(2, _, [_, _]), (3, _, [_, _])]) ⟨rfl, rfl, rfl, rfl, rfl, trivial⟩ ⟨rfl, rfl, trivial⟩), i + 1, _, _, _, _, _, rfl, by omega, by omega, hs, rfl⟩
  ·refine vOrd_nil ?_
   refine Wp.seq ?_
   refine Wp.condF rfl rfl ?_
   refine Wp.exit ?_
   refine qQ 1 ?_
   refine sS (fun w14 sw14 vw14 => ?_)
   refine vOrd_nil ?_
   refine Wp.ret ⟨.inr rfl, fun lW => ⟨_, res_cell rfl rfl rfl rfl, _, rfl, ?_, lW⟩⟩
   clear lW
   obtain rfl : i = l.length := by omega
   exact ⟨_, _, rfl, hsum⟩
theorem bbase_any {s : Sg} (hs : sgIn s = true) {la bh bl eh el : Int} {w : World} : Calls Tryz.prog 124 #[.agg #[.int .i64 s.d, .int .i64 s.b, .int .i64 s.f, .int .i64 s.r, .int .i64 la, .int .i64 bh, .int .u64 bl, .int .i64 eh, .int .u64 el]] w fun e w' => ∃ r, e = .returned r ∧ IsW (uZ s.b) r ∧ Below w.heap.size w w' := by
 obtain ⟨_, _, hb, hr⟩ := sgIn_iff.1 hs
 obtain ⟨f1, f2⟩ := fit_ok (z := s.b * 100000000000) (by omega) (by omega)
 refine calls_Wp (args := [_]) (n := 15) Tryz.func124 rfl rfl (by simp) ?_
 refine Wp.seq ?_
 refine wR [0, 1] ?_
 refine sE (fun bk1 w1 kb1 lw1 => ?_)
 refine sO (fun bk2 w2 kb2 lw2 => ?_)
 refine vOrd_nil ?_
 refine qQ 3 ?_
 refine s_callT rfl rfl rfl (by kernel_rfl) rfl (c_wof s.b (by omega) (by omega) _) ?_
 rintro v w3 k1 lw3
 refine s_callT rfl rfl rfl (by kernel_rfl) rfl (c_wof 100000000000 (by omega) (by omega) _) ?_
 rintro v w4 k2 lw4
 refine sT (c_wmul k1 k2 _) ?_
 rintro v w5 ⟨mu, rfl, mh, ml, rfl, k3⟩ lw5
 rw [f1] at k3
 refine sQ 3 ?_
 refine sO (fun bk6 w6 kb6 lw6 => ?_)
 refine sS (fun w7 sw7 vw7 => ?_)
 refine sZ 1 ?_
 refine qQ 1 ?_
 refine sS (fun w8 sw8 vw8 => ?_)
 refine vOrd_nil ?_
 refine Wp.ret ⟨.inr rfl, fun lW => ⟨_, res_cell rfl rfl rfl rfl, _, rfl, ?_, lW⟩⟩
 clear lW
 exact ⟨_, _, rfl, k3⟩
theorem brate_any {s : Sg} (hs : sgIn s = true) {la bh bl eh el : Int} {w : World} : Calls Tryz.prog 123 #[.agg #[.int .i64 s.d, .int .i64 s.b, .int .i64 s.f, .int .i64 s.r, .int .i64 la, .int .i64 bh, .int .u64 bl, .int .i64 eh, .int .u64 el]] w fun e w' => ∃ r, e = .returned r ∧ IsW (uZ s.r) r ∧ Below w.heap.size w w' := by
 obtain ⟨_, _, hb, hr⟩ := sgIn_iff.1 hs
 refine calls_Wp (args := [_]) (n := 8) Tryz.func123 rfl rfl (by simp) ?_
 refine Wp.seq ?_
 refine wR [0, 1] ?_
 refine sE (fun bk1 w1 kb1 lw1 => ?_)
 refine sO (fun bk2 w2 kb2 lw2 => ?_)
 refine vOrd_nil ?_
 refine qQ 3 ?_
 refine a_mul (-9223372036854775808) 9223372036854775807 (by decide) rfl rfl rfl rfl rfl (by omega) (by omega) ?_
 refine s_callT rfl rfl rfl (by kernel_rfl) rfl (c_wof (s.r * 100000000000) (by omega) (by omega) _) ?_
 rintro v w3 ⟨jh, jl, rfl, hj⟩ lw3
 refine sS (fun w4 sw4 vw4 => ?_)
 refine vOrd_nil ?_
 refine Wp.ret ⟨.inr rfl, fun lW => ⟨_, res_cell rfl rfl rfl rfl, _, rfl, ?_, lW⟩⟩
 clear lW
 exact ⟨_, _, rfl, hj⟩
theorem c_wcmp {a b : Int} {u v : Value} (hu : IsW a u) (hv : IsW b v) (w : World) : Calls Tryz.prog 97 #[u, v] w fun e w' => ∃ r, e = .returned r ∧ r = .int .i64 (cmpI a b) ∧ Below w.heap.size w w' := by
 obtain ⟨uh, ul, rfl, hu⟩ := hu
 obtain ⟨vh, vl, rfl, hv⟩ := hv
 refine (wcmp_any hu hv w).mono ?_
 rintro e w' ⟨rfl, hb⟩
 exact ⟨_, rfl, rfl, hb⟩
theorem c_wmuldiv {a b d : Int} {u v x : Value} (hu : IsW a u) (hv : IsW b v) (hx : IsW d x) (h0 : 0 < d) (w : World) : Calls Tryz.prog 122 #[u, v, x] w fun e w' => ∃ r, e = .returned r ∧ (∃ q p, r = .tuple #[q, p, .int .i64 (fitE (a * b / d))] ∧ IsW (fitV (a * b / d)) q ∧ IsW (fitR (a * b / d) (a * b % d)) p) ∧ Below w.heap.size w w' := by
 obtain ⟨uh, ul, rfl, hu⟩ := hu
 obtain ⟨vh, vl, rfl, hv⟩ := hv
 obtain ⟨xh, xl, rfl, hx⟩ := hx
 refine (wmuldiv_any hu hv hx h0 w).mono ?_
 rintro e w' ⟨qh, ql, rh, rl, h1, h2, rfl, hb⟩
 exact ⟨_, rfl, ⟨_, _, rfl, ⟨_, _, rfl, h1⟩, ⟨_, _, rfl, h2⟩⟩, hb⟩

theorem binst_any {s : Sg} (hs : sgIn s = true) {la bh bl eh el : Int} {u : Int} {uv : Value} (hu : IsW u uv) (h0 : -200000000000000000000000000000 ≤ u) (h1 : u ≤ 200000000000000000000000000000) {w : World} : Calls Tryz.prog 95 #[.agg #[.int .i64 s.d, .int .i64 s.b, .int .i64 s.f, .int .i64 s.r, .int .i64 la, .int .i64 bh, .int .u64 bl, .int .i64 eh, .int .u64 el], uv] w fun e w' => ∃ r, e = .returned r ∧ IsW (fZ s u) r ∧ Below w.heap.size w w' := by
 obtain ⟨uh, ul, rfl, hu⟩ := hu
 obtain ⟨hsd, hsf, hb, hr⟩ := sgIn_iff.1 hs
 have hcf := cnt_day s.f
 have hnr := fZ_near hs h0 h1
 have hm := mul_in (m := uZ s.r) (M := 100000000000000000) (V := 300000000000000000000000000000) (v := u - cnt s.f 0 0) (by unfold uZ; omega) (by unfold uZ; omega) (by omega) (by omega)
 have hB : -100000000000000000000 ≤ uZ s.b ∧ uZ s.b ≤ 100000000000000000000 := by unfold uZ; omega
 obtain ⟨cf, hcf'⟩ : ∃ c, cnt s.f 0 0 = c := ⟨_, rfl⟩
 obtain ⟨B, hB'⟩ : ∃ c, uZ s.b = c := ⟨_, rfl⟩
 obtain ⟨R, hR'⟩ : ∃ c, uZ s.r = c := ⟨_, rfl⟩
 obtain ⟨F, hF⟩ : ∃ c, fZ s u = c := ⟨_, rfl⟩
 have hdef : F = u + B + R * (u - cf) / 86400000000000000000000 := by rw [← hF, ← hB', ← hR', ← hcf']; rfl
 rw [hcf', hR'] at hm
 rw [hcf'] at hcf
 rw [hF] at hnr ⊢
 rw [hB'] at hB
 obtain ⟨M, hM⟩ : ∃ M, R * (u - cf) = M := ⟨_, rfl⟩
 rw [hM] at hm hdef
 have hM' : (u - cf) * R = M := by rw [Int.mul_comm]; exact hM
 obtain ⟨f1, f2⟩ := fit_ok (z := M / 86400000000000000000000) (by omega) (by omega)
 obtain ⟨dr, hdr⟩ : ∃ q, M / 86400000000000000000000 = q := ⟨_, rfl⟩
 rw [hdr] at f1 f2 hdef
 have hdrb : -400000000000000000000000 ≤ dr ∧ dr ≤ 400000000000000000000000 := by omega
 have hps : ∀ k, k ≤ [u, B, dr].length → -170141183460469231731687303715884105728 ≤ psum [u, B, dr] k ∧ psum [u, B, dr] k < 170141183460469231731687303715884105728 := by
  intro k hk
  match k, hk with
  | 0, _ => show _ ≤ (0 : Int) ∧ (0 : Int) < _; omega
  | 1, _ => show _ ≤ (0 : Int) + u ∧ (0 : Int) + u < _; omega
  | 2, _ => show _ ≤ (0 : Int) + u + B ∧ (0 : Int) + u + B < _; omega
  | 3, _ => show _ ≤ (0 : Int) + u + B + dr ∧ (0 : Int) + u + B + dr < _; omega
 have hpe : psum [u, B, dr] 3 = F := by show (0 : Int) + u + B + dr = F; omega
 have hD : cnt 1 0 0 = 86400000000000000000000 := cnt_1
 refine calls_Wp (args := [_, _]) (n := 30) Tryz.func95 rfl rfl (by simp) ?_
 refine Wp.seq ?_
 refine wR [0, 1, 2] ?_
 refine sE (fun bk1 w1 kb1 lw1 => ?_)
 refine sE (fun bk2 w2 kb2 lw2 => ?_)
 refine sO (fun bk3 w3 kb3 lw3 => ?_)
 refine vOrd_nil ?_
 refine Wp.seq ?_
 refine wD [0, 1, 2, 3, 6, 4, 5, 7] [94, 65, 67, 71, 63, 0, 0, 0] (fun | 4 => fun v _ => IsW (cnt s.f 0 0) v | 5 => fun v _ => IsW (u - cnt s.f 0 0) v | _ => fun _ _ => True) (fun _ _ => ?_)
 refine sQ 4 ?_
 refine sO (fun bk4 w4 kb4 lw4 => ?_)
 refine s_callD rfl rfl rfl (by kernel_rfl) rfl (fun wc lc => bbeg_any (n := s.f) (by omega)) ?_
 rintro v w5 u5 k1 lw5 mw5
 refine s_callD rfl rfl rfl (by kernel_rfl) rfl (fun wc lc => bless_any ⟨_, _, rfl, hu⟩ k1 (by omega) (by omega)) ?_
 rintro v w6 u6 ⟨jh, jl, rfl, hj⟩ lw6 mw6
 refine sS (fun w7 sw7 vw7 => ?_)
 refine vOrd_nil ?_
 refine Wp.seq ?_
 refine wD [0, 1, 9, 10, 2, 3, 4, 5, 6, 7, 8, 11, 12, 13] [1550, 1537, 1535, 1023, 0, 0, 0, 0, 1983, 3967, 7935, 0, 0, 0] (fun | 2 => fun v _ => IsW (uZ s.r) v | 3 => fun v _ => IsW (cnt 1 0 0) v | 4 => fun v _ => ∃ q p, v = .tuple #[q, p, .int .i64 (fitE ((u - cnt s.f 0 0) * uZ s.r / cnt 1 0 0))] ∧ IsW (fitV ((u - cnt s.f 0 0) * uZ s.r / cnt 1 0 0)) q ∧ IsW (fitR ((u - cnt s.f 0 0) * uZ s.r / cnt 1 0 0) ((u - cnt s.f 0 0) * uZ s.r % cnt 1 0 0)) p | _ => fun _ _ => True) (fun _ _ => ?_)
 refine sQ 2 ?_
 refine sO (fun bk8 w8 kb8 lw8 => ?_)
 refine sO (fun bk9 w9 kb9 lw9 => ?_)
 refine sD (fun wc lc => brate_any hs) ?_
 rintro v w10 u10 k2 lw10 mw10
 refine s_callD rfl rfl rfl (by kernel_rfl) rfl (fun wc lc => bbeg_any (n := 1) (by omega)) ?_
 rintro v w11 u11 k3 lw11 mw11
 refine s_callD rfl rfl rfl (by kernel_rfl) rfl (fun wc lc => c_wmuldiv ⟨_, _, rfl, hj⟩ k2 k3 (by decide) wc) ?_
 rintro v w12 u12 ⟨qv, pv, rfl, ⟨qh, ql, rfl, hq⟩, ⟨ph, pl, rfl, hp⟩⟩ lw12 mw12
 rw [hcf', hR', hD, hM', hdr, f1] at hq
 refine sQ 4 ?_
 refine sS (fun w13 sw13 vw13 => ?_)
 refine sS (fun w14 sw14 vw14 => ?_)
 refine sZ 1 ?_
 refine Wp.seq ?_
 refine wD [0, 1, 3, 2, 4, 5, 6] [14, 9, 7, 0, 0, 0, 0] (fun | 2 => fun v _ => IsW (uZ s.b) v | 4 => fun v w => WsAt w v [u, B, dr] | 5 => fun v _ => IsW (psum [u, B, dr] [u, B, dr].length) v | _ => fun _ _ => True) (fun _ _ => ?_)
 refine sQ 3 ?_
 refine sD (fun wc lc => bbase_any hs) ?_
 rintro v w15 u15 ⟨xh, xl, rfl, k4⟩ lw15 mw15
 rw [hB'] at k4
 refine s_bsD (e := 26) (cs := [.int .i64 uh, .int .u64 ul, .int .i64 xh, .int .u64 xl, .int .i64 qh, .int .u64 ql]) rfl rfl rfl (fun _ => by kernel_rfl) (fun c w' _ hr => ws_three hr hu k4 hq) ?_
 rintro v wq uq hq2 lwq mwq
 replace hq2 := hq2.later mwq
 refine s_callD rfl rfl rfl (by kernel_rfl) rfl (fun wc lc => bplus_any (hq2.later lc) (by show 3 ≤ 100; omega) hps) ?_
 rintro v w19 u19 ⟨fh, fl, rfl, k5⟩ lw19 mw19
 refine sS (fun w20 sw20 vw20 => ?_)
 refine vOrd_nil ?_
 refine Wp.ret ⟨.inr rfl, fun lW => ⟨_, res_cell rfl rfl rfl rfl, _, rfl, ?_, lW⟩⟩
 clear lW
 exact ⟨_, _, rfl, by rw [← hpe]; exact k5⟩
end Go.Proofs.YthihioakjpmnbaaGreat
