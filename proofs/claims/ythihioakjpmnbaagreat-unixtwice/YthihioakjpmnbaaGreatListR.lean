/-
 Leap second files: Entry, Table, Digits, Print of the reference; inRange, mayStand, Check of the program. No conditions beyond those at each.
-/
import Derived.Test.YthihioakjpmnbaaGreatEntA
namespace Go.Proofs.YthihioakjpmnbaaGreat
open Go.RowKit
set_option maxRecDepth 100000

def Calm (es : List Ent) : Prop := ∀ a, es[es.length - 1]? = some a → -1000000 ≤ a.2 ∧ a.2 ≤ 1000000

theorem inr_any (n m : Int) (w : World) : Calls Tryz.prog 88 #[.int .i64 n, .int .i64 m] w fun e w' => ∃ r, e = .returned r ∧ r = .bool (decide (0 ≤ n) && decide (n ≤ m)) ∧ Below w.heap.size w w' := by
 refine calls_Wp (args := [_, _]) (n := 12) Tryz.func88 rfl rfl (by simp) ?_
 refine qZ ?_
 refine qQ 1 ?_
 refine p_geq rfl rfl rfl rfl rfl (fun h6 => ?_) (fun h6 => ?_)
 ·refine sQ 3 ?_
  refine p_leq rfl rfl rfl rfl rfl (fun h10 => ?_) (fun h10 => ?_)
  ·refine sZ 2 ?_
   refine Wp.ret ⟨.inr rfl, fun lW => ⟨_, res_tmp (P := Tryz.prog) rfl rfl, _, rfl, ?_, lW⟩⟩
   clear lW
   rw [decide_eq_true (show 0 ≤ n by omega), decide_eq_true (show n ≤ m by omega)]
   all_goals rfl
  ·refine sZ 2 ?_
   refine Wp.ret ⟨.inr rfl, fun lW => ⟨_, res_tmp (P := Tryz.prog) rfl rfl, _, rfl, ?_, lW⟩⟩
   clear lW
   rw [decide_eq_true (show 0 ≤ n by omega), decide_eq_false (show ¬ n ≤ m by omega)]
   all_goals rfl
 ·refine sZ 6 ?_
  refine Wp.ret ⟨.inr rfl, fun lW => ⟨_, res_tmp (P := Tryz.prog) rfl rfl, _, rfl, ?_, lW⟩⟩
  clear lW
  rw [decide_eq_false (show ¬ 0 ≤ n by omega)]
  all_goals rfl
theorem may_any {v : Value} {es : List Ent} {a b : Int} (ha : I64 a) (hb : I64 b) {w : World} (hv : EntAt w v es) (hc : Calm es) : Calls Tryz.prog 87 #[.agg #[.int .i64 a, .int .i64 b], v] w fun e w' => ∃ r, e = .returned r ∧ r = .bool (stand es (a, b)) ∧ Below w.heap.size w w' := by
 unfold I64 at ha hb
 obtain ⟨va, vc, rfl, hlc⟩ : ∃ va vc, v = .slice va es.length vc ∧ es.length ≤ vc := by
  obtain ⟨va, vc, h1, h2, _⟩ := hv
  exact ⟨va, vc, h1, h2⟩
 refine calls_Wp (args := [_, _]) (n := 57) Tryz.func87 rfl rfl (by simp) ?_
 refine Wp.seq ?_
 refine wR [0, 1] ?_
 refine sE (fun bk1 w1 kb1 lw1 => ?_)
 refine sZ 1 ?_
 refine Wp.seq ?_
 refine qQ 1 ?_
 refine x_len rfl rfl rfl rfl rfl ?_
 refine p_geq rfl rfl rfl rfl rfl (fun h8 => ?_) (fun h8 => ?_)
 ·refine sZ 18 ?_
  refine Wp.condT rfl rfl ?_
  refine qZ ?_
  refine Wp.ret ⟨.inr rfl, fun lW => ⟨_, res_tmp (P := Tryz.prog) rfl rfl, _, rfl, ?_, lW⟩⟩
  clear lW
  rw [stand_full (by omega)]
 ·refine sQ 3 ?_
  refine sT (inr_any a 1125899906842624 _) ?_
  rintro v w2 rfl lw2
  rcases Bool.eq_false_or_eq_true ((decide (0 ≤ a) && decide (a ≤ 1125899906842624))) with h12 | h12
  ·rw [h12]
   simp only [Bool.and_eq_true, decide_eq_true_eq] at h12
   refine sQ 5 ?_
   refine a_rem rfl rfl rfl rfl rfl (by omega) (by omega) ?_
   refine p_neq rfl rfl rfl rfl rfl (fun h19 => ?_) (fun h19 => ?_)
   ·refine sZ 7 ?_
    refine Wp.condT rfl rfl ?_
    refine qZ ?_
    refine Wp.ret ⟨.inr rfl, fun lW => ⟨_, res_tmp (P := Tryz.prog) rfl rfl, _, rfl, ?_, lW⟩⟩
    clear lW
    rw [stand_in (entIn_no (by omega))]
   ·refine sQ 4 ?_
    refine sT (inr_any b 1000 _) ?_
    rintro v w3 rfl lw3
    rcases Bool.eq_false_or_eq_true ((decide (0 ≤ b) && decide (b ≤ 1000))) with h24 | h24
    ·rw [h24]
     simp only [Bool.and_eq_true, decide_eq_true_eq] at h24
     refine sZ 2 ?_
     refine Wp.condF rfl rfl ?_
     refine Wp.skip ?_
     refine Wp.seq ?_
     refine Wp.seq ?_
     have hin : entIn (a, b) = true := entIn_yes (by omega) (by omega) (by omega) (by omega) (by omega)
     refine wQ 1 ?_
     refine x_len rfl rfl rfl rfl rfl ?_
     refine p_eql rfl rfl rfl rfl rfl (fun h29 => ?_) (fun h29 => ?_)
     ·refine vOrd_nil ?_
      refine Wp.condT rfl rfl ?_
      refine qZ ?_
      refine Wp.ret ⟨.inr rfl, fun lW => ⟨_, res_tmp (P := Tryz.prog) rfl rfl, _, rfl, ?_, lW⟩⟩
      clear lW
      rw [stand_first (by omega) hin]
     ·refine vOrd_nil ?_
      refine Wp.condF rfl rfl ?_
      refine Wp.skip ?_
      refine Wp.seq ?_
      refine Wp.old (fun lo => ?_)
      obtain ⟨va1, vc1, ev, _, hcell⟩ := hv.later lo
      cases ev
      have hpos : 0 < es.length := by omega
      obtain ⟨x, hx⟩ : ∃ x, es[es.length - 1]? = some x := ⟨es[es.length - 1], List.getElem?_eq_getElem (by omega)⟩
      obtain ⟨i1, i2, vb, vo, rfl, k1, k2⟩ := hcell _ x hx
      have hxc := hc x hx
      unfold I64 at i1 i2
      obtain ⟨x1, x2⟩ := x
      simp only at k1 k2 i1 i2 hxc
      refine wQ 2 ?_
      refine x_len rfl rfl rfl rfl rfl ?_
      refine aM (-9223372036854775808) 9223372036854775807 ?_
      refine sI (sz := 2) (vo + (es.length - 1) * 2) ?_
      refine x_ldA [.int .i64 x1, .int .i64 x2] rfl rfl rfl rfl rfl rfl (World.block_lt_of_cell? _ _ k1) (fun j u hj => ?_) ?_
      ·match j, hj with
       | 0, hj => cases hj; exact k1
       | 1, hj => cases hj; exact k2
      refine sO (fun bk9 w9 kb9 lw9 => ?_)
      refine sS (fun w10 sw10 vw10 => ?_)
      refine vOrd_nil ?_
      refine qQ 4 ?_
      refine p_gtr rfl rfl rfl rfl rfl (fun h40 => ?_) (fun h40 => ?_)
      ·refine sQ 5 ?_
       refine aP (-9223372036854775808) 9223372036854775807 ?_
       refine p_eql rfl rfl rfl rfl rfl (fun h47 => ?_) (fun h47 => ?_)
       ·refine sZ 10 ?_
        refine Wp.ret ⟨.inr rfl, fun lW => ⟨_, res_tmp (P := Tryz.prog) rfl rfl, _, rfl, ?_, lW⟩⟩
        clear lW
        rw [stand_next (by omega) hx hin, decide_eq_true (show x1 < a by omega), decide_eq_true (show b = x2 + 1 by omega)]
        all_goals rfl
       ·refine sQ 5 ?_
        refine aM (-9223372036854775808) 9223372036854775807 ?_
        refine p_eql rfl rfl rfl rfl rfl (fun h54 => ?_) (fun h54 => ?_)
        ·refine sZ 3 ?_
         refine Wp.ret ⟨.inr rfl, fun lW => ⟨_, res_tmp (P := Tryz.prog) rfl rfl, _, rfl, ?_, lW⟩⟩
         clear lW
         rw [stand_next (by omega) hx hin, decide_eq_true (show x1 < a by omega), decide_eq_true (show b = x2 - 1 by omega), Bool.or_true]
         all_goals rfl
        ·refine sZ 3 ?_
         refine Wp.ret ⟨.inr rfl, fun lW => ⟨_, res_tmp (P := Tryz.prog) rfl rfl, _, rfl, ?_, lW⟩⟩
         clear lW
         rw [stand_next (by omega) hx hin, decide_eq_true (show x1 < a by omega), decide_eq_false (show ¬ b = x2 + 1 by omega), decide_eq_false (show ¬ b = x2 - 1 by omega)]
         all_goals rfl
      ·refine sZ 17 ?_
       refine Wp.ret ⟨.inr rfl, fun lW => ⟨_, res_tmp (P := Tryz.prog) rfl rfl, _, rfl, ?_, lW⟩⟩
       clear lW
       rw [stand_next (by omega) hx hin, decide_eq_false (show ¬ x1 < a by omega)]
       all_goals rfl
    ·rw [h24]
     rw [← Bool.not_eq_true] at h24
     simp only [Bool.and_eq_true, decide_eq_true_eq] at h24
     refine sZ 2 ?_
     refine Wp.condT rfl rfl ?_
     refine qZ ?_
     refine Wp.ret ⟨.inr rfl, fun lW => ⟨_, res_tmp (P := Tryz.prog) rfl rfl, _, rfl, ?_, lW⟩⟩
     clear lW
     rw [stand_in (entIn_no (by omega))]
  ·rw [h12]
   rw [← Bool.not_eq_true] at h12
   simp only [Bool.and_eq_true, decide_eq_true_eq] at h12
   refine sZ 14 ?_
   refine Wp.condT rfl rfl ?_
   refine qZ ?_
   refine Wp.ret ⟨.inr rfl, fun lW => ⟨_, res_tmp (P := Tryz.prog) rfl rfl, _, rfl, ?_, lW⟩⟩
   clear lW
   rw [stand_in (entIn_no (by omega))]
theorem lmay_at {es : List Ent} {i : Nat} {x : Ent} (hx : es[i]? = some x) {a : Option Addr} {n c : Nat} {w : World} (hv : EntAt w (.slice a n c) es) (hok : ∀ j, j < i → okAt es j = true) :
  Calls Tryz.prog 87 #[.agg #[.int .i64 x.1, .int .i64 x.2], .slice a i c] w fun e w' => ∃ r, e = .returned r ∧ r = .bool (okAt es i) ∧ Below w.heap.size w w' := by
 have hi := (List.getElem?_eq_some_iff.1 hx).1
 obtain ⟨i1, i2⟩ : I64 x.1 ∧ I64 x.2 := by
  obtain ⟨_, _, _, _, hc⟩ := hv
  exact ⟨(hc i x hx).1, (hc i x hx).2.1⟩
 rw [ok_at hx]
 exact may_any i1 i2 (hv.take (by omega)) (fun y hy => by have := ok_last (by omega) hok hy; omega)
/-- How a table lies in memory. -/
def tbV (t : Tb) (v : Value) : Value := .agg #[.int .i64 t.u, .int .i64 t.e, v]

theorem ok_lt {es : List Ent} {i : Nat} (hi : i < es.length) (h : okAt es i = true) : i < 64 := by
 rw [ok_at (List.getElem?_eq_getElem hi)] at h
 have := (stand_spec h).1
 rw [List.length_take] at this
 omega
theorem inS_of {n : Int} {q : Bool} (h : (decide (0 ≤ n) && decide (n ≤ 999999999999999999)) = q) : inS n = q := by
 rw [← h]; unfold inS; congr 1
 exact decide_eq_decide.2 (by omega)
theorem check_any (t : Tb) (hu : I64 t.u) (he : I64 t.e) {v : Value} {w : World} (hv : EntAt w v t.es) : Calls Tryz.prog 56 #[tbV t v] w fun e w' => ∃ r, e = .returned r ∧ r = .tuple #[.int .i64 (place t : Int), .int .i64 (if canBe t = true then 0 else 10)] ∧ Below w.heap.size w w' := by
 obtain ⟨tu, te, es⟩ := t
 simp only at hu he hv
 unfold I64 at hu he
 unfold tbV
 obtain ⟨va, vc, rfl, hlc⟩ : ∃ va vc, v = .slice va es.length vc ∧ es.length ≤ vc := by
  obtain ⟨va, vc, h1, h2, _⟩ := hv
  exact ⟨va, vc, h1, h2⟩
 refine calls_Wp (args := [_]) (n := 42) Tryz.func56 rfl rfl (by simp) ?_
 refine Wp.seq ?_
 refine wR [0, 1, 2] ?_
 refine sE (fun bk1 w1 kb1 lw1 => ?_)
 refine sZ 2 ?_
 refine Wp.seq ?_
 refine qQ 2 ?_
 refine x_len rfl rfl rfl rfl rfl ?_
 refine sZ 1 ?_
 refine Wp.block ?_
 refine Wp.loop (fun k st W => ∃ (i : Nat) (p : Int), st = St.of [(1, .p 1 bk1 0), (7, .v (.slice va es.length vc)), (8, .v (.int .i64 (es.length : Int))), (9, .v (.int .i64 p))] [(1, bk1, [.int .i64 tu, .int .i64 te, .slice va es.length vc])] ∧ p = i ∧ i ≤ es.length ∧ badFrom es (es.length - i) i = firstBad es ∧ (∀ j, j < i → okAt es j = true) ∧ k = es.length - i) ?_ ?_
 ·exact ⟨_, _, (St.of_le' (env := [(1, .p 1 _ 0), (7, .v _), (8, .v _), (9, .v _)]) (mem := [(1, _, [_, _, _])]) ⟨rfl, rfl, rfl, rfl, trivial⟩ ⟨rfl, trivial⟩), 0, 0, rfl, rfl, Nat.zero_le _, rfl, fun j hj => by omega, rfl⟩
 ·rintro k st w2 ⟨i, p, rfl, rfl, hi, hbf, hok, rfl⟩
  refine Wp.seq ?_
  refine wR [0] ?_
  refine p_lss rfl rfl rfl rfl rfl (fun h10 => ?_) (fun h10 => ?_)
  ·refine vOrd_nil ?_
   refine Wp.seq ?_
   refine Wp.condT rfl rfl ?_
   refine Wp.skip ?_
   refine Wp.seq ?_
   refine Wp.block ?_
   refine Wp.seq ?_
   have hin : i < es.length := by omega
   obtain ⟨x, hx⟩ : ∃ x, es[i]? = some x := ⟨es[i], List.getElem?_eq_getElem hin⟩
   refine Wp.old (fun lo => ?_)
   have hE := hv.later lo
   obtain ⟨va1, vc1, ev, _, hcell⟩ := hE
   obtain ⟨i1, i2, vb, vo, rfl, k1, k2⟩ := hcell _ x hx
   cases ev
   unfold I64 at i1 i2
   clear hcell
   refine wQ 1 ?_
   refine sI (sz := 2) (vo + i * 2) ?_
   refine x_ldA [.int .i64 x.1, .int .i64 x.2] rfl rfl rfl rfl rfl rfl (World.block_lt_of_cell? _ _ k1) (fun j u hj => ?_) ?_
   ·match j, hj with
    | 0, hj => cases hj; exact k1
    | 1, hj => cases hj; exact k2
   refine sO (fun bk8 w8 kb8 lw8 => ?_)
   refine sA ?_
   refine sS (fun w9 sw9 vw9 => ?_)
   refine vOrd_nil ?_
   refine Wp.seq ?_
   refine Wp.old (fun lo => ?_)
   have hE := hv.later lo
   refine wD [0, 1, 2, 3, 4, 5, 6] [30, 9, 11, 0, 0, 0, 0] (fun | 5 => fun v _ => v = .bool (okAt es i) | _ => fun _ _ => True) (fun wd ld => ?_)
   have hEd := hE.later ld
   refine sQ 4 ?_
   refine x_to (sz := 2) rfl rfl rfl rfl rfl rfl rfl (by omega) (by omega) ?_
   refine sD (fun wc lc => lmay_at hx (hEd.later lc) hok) ?_
   rintro v w11 u11 rfl lw11 mw11
   refine sZ 1 ?_
   refine Wp.cond rfl (okOpd_spec rfl) (fun c20 => ?_) (fun c20 => ?_)
   ·have hno : okAt es i = false := by simpa using c20
    obtain ⟨q1, q2⟩ := can_bad (t := ⟨tu, te, es⟩) hin ((bad_step hin hbf).2 hno)
    refine qZ ?_
    refine Wp.ret ⟨.inr rfl, fun lW => ⟨_, ⟨_, _, res_tmp (P := Tryz.prog) rfl rfl, res_tmp (P := Tryz.prog) rfl rfl, rfl⟩, _, rfl, ?_, lW⟩⟩
    clear lW
    rw [q1, q2]
    rfl
   ·have hyes : okAt es i = true := by simpa using c20
    have h64 := ok_lt hin hyes
    refine Wp.skip ?_
    refine wR [0, 1] ?_
    refine aP (-9223372036854775808) 9223372036854775807 ?_
    refine sZ 1 ?_
    exact ⟨_, _, by omega, (St.of_le' (env := [(1, .p 1 _ 0), (7, .v _), (8, .v _), (9, .v _)]) (mem := [(1, _, [_, _, _])]) ⟨rfl, rfl, rfl, rfl, trivial⟩ ⟨rfl, trivial⟩), i + 1, _, rfl, by omega, by omega, (bad_step hin hbf).1 hyes, fun j hj => by rcases Nat.lt_or_ge j i with q | q; exact hok j q; rw [show j = i by omega]; exact hyes, rfl⟩
  ·refine vOrd_nil ?_
   refine Wp.seq ?_
   refine Wp.condF rfl rfl ?_
   refine Wp.exit ?_
   refine Wp.seq ?_
   refine Wp.seq ?_
   have hfb := bad_end (by omega) hbf
   refine wQ 2 ?_
   refine x_len rfl rfl rfl rfl rfl ?_
   refine p_eql rfl rfl rfl rfl rfl (fun h26 => ?_) (fun h26 => ?_)
   ·refine sZ 12 ?_
    refine Wp.condT rfl rfl ?_
    refine qQ 2 ?_
    refine x_len rfl rfl rfl rfl rfl ?_
    refine sZ 2 ?_
    refine Wp.ret ⟨.inr rfl, fun lW => ⟨_, ⟨_, _, res_tmp (P := Tryz.prog) rfl rfl, res_tmp (P := Tryz.prog) rfl rfl, rfl⟩, _, rfl, ?_, lW⟩⟩
    clear lW
    obtain ⟨q1, q2⟩ := can_end (t := ⟨tu, te, es⟩) hfb (by simp only; rw [decide_eq_false (by omega)]; rfl)
    rw [q1, q2]
    rfl
   ·refine sQ 3 ?_
    refine sT (inr_any tu 999999999999999999 _) ?_
    rintro v w12 rfl lw12
    rcases Bool.eq_false_or_eq_true ((decide (0 ≤ tu) && decide (tu ≤ 999999999999999999))) with h30 | h30
    ·rw [h30]
     refine sQ 5 ?_
     refine sT (inr_any te 999999999999999999 _) ?_
     rintro v w13 rfl lw13
     rcases Bool.eq_false_or_eq_true ((decide (0 ≤ te) && decide (te ≤ 999999999999999999))) with h36 | h36
     ·rw [h36]
      refine sZ 2 ?_
      refine Wp.condF rfl rfl ?_
      refine Wp.skip ?_
      refine qZ ?_
      refine Wp.ret ⟨.inr rfl, fun lW => ⟨_, ⟨_, _, res_tmp (P := Tryz.prog) rfl rfl, res_tmp (P := Tryz.prog) rfl rfl, rfl⟩, _, rfl, ?_, lW⟩⟩
      clear lW
      have q1 := can_yes (t := ⟨tu, te, es⟩) hfb (by simp only; rw [inS_of h30, inS_of h36, decide_eq_true (by omega)]; rfl)
      rw [can_place q1, q1]
      rfl
     ·rw [h36]
      refine sZ 2 ?_
      refine Wp.condT rfl rfl ?_
      refine qQ 2 ?_
      refine x_len rfl rfl rfl rfl rfl ?_
      refine sZ 2 ?_
      refine Wp.ret ⟨.inr rfl, fun lW => ⟨_, ⟨_, _, res_tmp (P := Tryz.prog) rfl rfl, res_tmp (P := Tryz.prog) rfl rfl, rfl⟩, _, rfl, ?_, lW⟩⟩
      clear lW
      obtain ⟨q1, q2⟩ := can_end (t := ⟨tu, te, es⟩) hfb (by simp only; rw [inS_of h36, Bool.and_false, Bool.and_false])
      rw [q1, q2]
      rfl
    ·rw [h30]
     refine sZ 8 ?_
     refine Wp.condT rfl rfl ?_
     refine qQ 2 ?_
     refine x_len rfl rfl rfl rfl rfl ?_
     refine sZ 2 ?_
     refine Wp.ret ⟨.inr rfl, fun lW => ⟨_, ⟨_, _, res_tmp (P := Tryz.prog) rfl rfl, res_tmp (P := Tryz.prog) rfl rfl, rfl⟩, _, rfl, ?_, lW⟩⟩
     clear lW
     obtain ⟨q1, q2⟩ := can_end (t := ⟨tu, te, es⟩) hfb (by simp only; rw [inS_of h30, Bool.false_and, Bool.and_false])
     rw [q1, q2]
     rfl

end Go.Proofs.YthihioakjpmnbaaGreat
