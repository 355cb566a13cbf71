/-
 Leap second files: Entry, Table, Digits, Print of the reference; inRange, mayStand, Check of the program. No conditions beyond those at each.
-/
import Derived.Test.YtdpodbfamgafiaaGreatEntA
namespace Go.Proofs.YtdpodbfamgafiaaGreat
open Go.RowKit
set_option maxRecDepth 100000

def Calm (es : List Ent) : Prop := ∀ a, es[es.length - 1]? = some a → -1000000 ≤ a.2 ∧ a.2 ≤ 1000000

theorem inr_any (n m : Int) (w : World) : Calls Tryz.prog 77 #[.int .i64 n, .int .i64 m] w fun e w' => ∃ r, e = .returned r ∧ r = .bool (decide (0 ≤ n) && decide (n ≤ m)) ∧ Below w.heap.size w w' := by
 refine calls_Wp (args := [_, _]) (n := 12) Tryz.func77 rfl rfl (by simp) ?_
 refine qZ ?_
 refine qQ 1 ?_
 refine p_geq rfl rfl rfl rfl rfl (fun h6 => ?_) (fun h6 => ?_)
 ·refine sQ 3 ?_
  refine p_leq rfl rfl rfl rfl rfl (fun h10 => ?_) (fun h10 => ?_)
  ·refine sZ 2 ?_
   refine Wp.ret ⟨.inr rfl, fun lW => ⟨_, res_tmp (P := Tryz.prog) rfl rfl, _, rfl, ?_, lW⟩⟩
   clear lW
   rw [decide_eq_true (show 0 ≤ n by omega), decide_eq_true (show n ≤ m by omega)]
   all_goals rfl
  ·refine sZ 2 ?_
   refine Wp.ret ⟨.inr rfl, fun lW => ⟨_, res_tmp (P := Tryz.prog) rfl rfl, _, rfl, ?_, lW⟩⟩
   clear lW
   rw [decide_eq_true (show 0 ≤ n by omega), decide_eq_false (show ¬ n ≤ m by omega)]
   all_goals rfl
 ·refine sZ 6 ?_
  refine Wp.ret ⟨.inr rfl, fun lW => ⟨_, res_tmp (P := Tryz.prog) rfl rfl, _, rfl, ?_, lW⟩⟩
  clear lW
  rw [decide_eq_false (show ¬ 0 ≤ n by omega)]
  all_goals rfl
theorem rentry_any {v : Value} {es : List Ent} {a b : Int} (ha : I64 a) (hb : I64 b) {w : World} (hv : EntAt w v es) (hc : Calm es) : Calls Tryz.prog 29 #[v, .agg #[.int .i64 a, .int .i64 b]] w fun e w' => ∃ r, e = .returned r ∧ r = .bool (stand es (a, b)) ∧ Below w.heap.size w w' := by
 unfold I64 at ha hb
 obtain ⟨va, vc, rfl, hlc⟩ : ∃ va vc, v = .slice va es.length vc ∧ es.length ≤ vc := by
  obtain ⟨va, vc, h1, h2, _⟩ := hv
  exact ⟨va, vc, h1, h2⟩
 refine calls_Wp (args := [_, _]) (n := 65) Tryz.func29 rfl rfl (by simp) ?_
 refine Wp.seq ?_
 refine wR [0, 1] ?_
 refine sE (fun bk1 w1 kb1 lw1 => ?_)
 refine sZ 1 ?_
 refine Wp.seq ?_
 refine qQ 1 ?_
 refine x_len rfl rfl rfl rfl rfl ?_
 refine p_geq rfl rfl rfl rfl rfl (fun h8 => ?_) (fun h8 => ?_)
 ·refine sZ 26 ?_
  refine Wp.condT rfl rfl ?_
  refine qZ ?_
  refine Wp.ret ⟨.inr rfl, fun lW => ⟨_, res_tmp (P := Tryz.prog) rfl rfl, _, rfl, ?_, lW⟩⟩
  clear lW
  rw [stand_full (by omega)]
 ·refine sQ 3 ?_
  refine p_lss rfl rfl rfl rfl rfl (fun h12 => ?_) (fun h12 => ?_)
  ·refine sZ 22 ?_
   refine Wp.condT rfl rfl ?_
   refine qZ ?_
   refine Wp.ret ⟨.inr rfl, fun lW => ⟨_, res_tmp (P := Tryz.prog) rfl rfl, _, rfl, ?_, lW⟩⟩
   clear lW
   rw [stand_in (entIn_no (by omega))]
  ·refine sQ 4 ?_
   refine p_gtr rfl rfl rfl rfl rfl (fun h17 => ?_) (fun h17 => ?_)
   ·refine sZ 17 ?_
    refine Wp.condT rfl rfl ?_
    refine qZ ?_
    refine Wp.ret ⟨.inr rfl, fun lW => ⟨_, res_tmp (P := Tryz.prog) rfl rfl, _, rfl, ?_, lW⟩⟩
    clear lW
    rw [stand_in (entIn_no (by omega))]
   ·refine sQ 4 ?_
    refine a_rem rfl rfl rfl rfl rfl (by omega) (by omega) ?_
    refine p_neq rfl rfl rfl rfl rfl (fun h23 => ?_) (fun h23 => ?_)
    ·refine sZ 11 ?_
     refine Wp.condT rfl rfl ?_
     refine qZ ?_
     refine Wp.ret ⟨.inr rfl, fun lW => ⟨_, res_tmp (P := Tryz.prog) rfl rfl, _, rfl, ?_, lW⟩⟩
     clear lW
     rw [stand_in (entIn_no (by omega))]
    ·refine sQ 4 ?_
     refine p_lss rfl rfl rfl rfl rfl (fun h28 => ?_) (fun h28 => ?_)
     ·refine sZ 6 ?_
      refine Wp.condT rfl rfl ?_
      refine qZ ?_
      refine Wp.ret ⟨.inr rfl, fun lW => ⟨_, res_tmp (P := Tryz.prog) rfl rfl, _, rfl, ?_, lW⟩⟩
      clear lW
      rw [stand_in (entIn_no (by omega))]
     ·refine sQ 4 ?_
      refine p_gtr rfl rfl rfl rfl rfl (fun h33 => ?_) (fun h33 => ?_)
      ·refine sZ 1 ?_
       refine Wp.condT rfl rfl ?_
       refine qZ ?_
       refine Wp.ret ⟨.inr rfl, fun lW => ⟨_, res_tmp (P := Tryz.prog) rfl rfl, _, rfl, ?_, lW⟩⟩
       clear lW
       rw [stand_in (entIn_no (by omega))]
      ·refine sZ 1 ?_
       refine Wp.condF rfl rfl ?_
       refine Wp.skip ?_
       refine Wp.seq ?_
       refine Wp.seq ?_
       have hin : entIn (a, b) = true := entIn_yes (by omega) (by omega) (by omega) (by omega) (by omega)
       refine wQ 1 ?_
       refine x_len rfl rfl rfl rfl rfl ?_
       refine p_eql rfl rfl rfl rfl rfl (fun h37 => ?_) (fun h37 => ?_)
       ·refine vOrd_nil ?_
        refine Wp.condT rfl rfl ?_
        refine qZ ?_
        refine Wp.ret ⟨.inr rfl, fun lW => ⟨_, res_tmp (P := Tryz.prog) rfl rfl, _, rfl, ?_, lW⟩⟩
        clear lW
        rw [stand_first (by omega) hin]
       ·refine vOrd_nil ?_
        refine Wp.condF rfl rfl ?_
        refine Wp.skip ?_
        refine Wp.seq ?_
        refine Wp.old (fun lo => ?_)
        obtain ⟨va1, vc1, ev, _, hcell⟩ := hv.later lo
        cases ev
        have hpos : 0 < es.length := by omega
        obtain ⟨x, hx⟩ : ∃ x, es[es.length - 1]? = some x := ⟨es[es.length - 1], List.getElem?_eq_getElem (by omega)⟩
        obtain ⟨i1, i2, vb, vo, rfl, k1, k2⟩ := hcell _ x hx
        have hxc := hc x hx
        unfold I64 at i1 i2
        obtain ⟨x1, x2⟩ := x
        simp only at k1 k2 i1 i2 hxc
        refine wQ 2 ?_
        refine x_len rfl rfl rfl rfl rfl ?_
        refine aM (-9223372036854775808) 9223372036854775807 ?_
        refine sI (sz := 2) (vo + (es.length - 1) * 2) ?_
        refine x_ldA [.int .i64 x1, .int .i64 x2] rfl rfl rfl rfl rfl rfl (World.block_lt_of_cell? _ _ k1) (fun j u hj => ?_) ?_
        ·match j, hj with
         | 0, hj => cases hj; exact k1
         | 1, hj => cases hj; exact k2
        refine sO (fun bk7 w7 kb7 lw7 => ?_)
        refine sS (fun w8 sw8 vw8 => ?_)
        refine vOrd_nil ?_
        refine qQ 4 ?_
        refine p_gtr rfl rfl rfl rfl rfl (fun h48 => ?_) (fun h48 => ?_)
        ·refine sQ 5 ?_
         refine aP (-9223372036854775808) 9223372036854775807 ?_
         refine p_eql rfl rfl rfl rfl rfl (fun h55 => ?_) (fun h55 => ?_)
         ·refine sZ 10 ?_
          refine Wp.ret ⟨.inr rfl, fun lW => ⟨_, res_tmp (P := Tryz.prog) rfl rfl, _, rfl, ?_, lW⟩⟩
          clear lW
          rw [stand_next (by omega) hx hin, decide_eq_true (show x1 < a by omega), decide_eq_true (show b = x2 + 1 by omega)]
          all_goals rfl
         ·refine sQ 5 ?_
          refine aM (-9223372036854775808) 9223372036854775807 ?_
          refine p_eql rfl rfl rfl rfl rfl (fun h62 => ?_) (fun h62 => ?_)
          ·refine sZ 3 ?_
           refine Wp.ret ⟨.inr rfl, fun lW => ⟨_, res_tmp (P := Tryz.prog) rfl rfl, _, rfl, ?_, lW⟩⟩
           clear lW
           rw [stand_next (by omega) hx hin, decide_eq_true (show x1 < a by omega), decide_eq_true (show b = x2 - 1 by omega), Bool.or_true]
           all_goals rfl
          ·refine sZ 3 ?_
           refine Wp.ret ⟨.inr rfl, fun lW => ⟨_, res_tmp (P := Tryz.prog) rfl rfl, _, rfl, ?_, lW⟩⟩
           clear lW
           rw [stand_next (by omega) hx hin, decide_eq_true (show x1 < a by omega), decide_eq_false (show ¬ b = x2 + 1 by omega), decide_eq_false (show ¬ b = x2 - 1 by omega)]
           all_goals rfl
        ·refine sZ 17 ?_
         refine Wp.ret ⟨.inr rfl, fun lW => ⟨_, res_tmp (P := Tryz.prog) rfl rfl, _, rfl, ?_, lW⟩⟩
         clear lW
         rw [stand_next (by omega) hx hin, decide_eq_false (show ¬ x1 < a by omega)]
         all_goals rfl
theorem may_any {v : Value} {es : List Ent} {a b : Int} (ha : I64 a) (hb : I64 b) {w : World} (hv : EntAt w v es) (hc : Calm es) : Calls Tryz.prog 76 #[.agg #[.int .i64 a, .int .i64 b], v] w fun e w' => ∃ r, e = .returned r ∧ r = .bool (stand es (a, b)) ∧ Below w.heap.size w w' := by
 unfold I64 at ha hb
 obtain ⟨va, vc, rfl, hlc⟩ : ∃ va vc, v = .slice va es.length vc ∧ es.length ≤ vc := by
  obtain ⟨va, vc, h1, h2, _⟩ := hv
  exact ⟨va, vc, h1, h2⟩
 refine calls_Wp (args := [_, _]) (n := 57) Tryz.func76 rfl rfl (by simp) ?_
 refine Wp.seq ?_
 refine wR [0, 1] ?_
 refine sE (fun bk1 w1 kb1 lw1 => ?_)
 refine sZ 1 ?_
 refine Wp.seq ?_
 refine qQ 1 ?_
 refine x_len rfl rfl rfl rfl rfl ?_
 refine p_geq rfl rfl rfl rfl rfl (fun h8 => ?_) (fun h8 => ?_)
 ·refine sZ 18 ?_
  refine Wp.condT rfl rfl ?_
  refine qZ ?_
  refine Wp.ret ⟨.inr rfl, fun lW => ⟨_, res_tmp (P := Tryz.prog) rfl rfl, _, rfl, ?_, lW⟩⟩
  clear lW
  rw [stand_full (by omega)]
 ·refine sQ 3 ?_
  refine sT (inr_any a 1125899906842624 _) ?_
  rintro v w2 rfl lw2
  rcases Bool.eq_false_or_eq_true ((decide (0 ≤ a) && decide (a ≤ 1125899906842624))) with h12 | h12
  ·rw [h12]
   simp only [Bool.and_eq_true, decide_eq_true_eq] at h12
   refine sQ 5 ?_
   refine a_rem rfl rfl rfl rfl rfl (by omega) (by omega) ?_
   refine p_neq rfl rfl rfl rfl rfl (fun h19 => ?_) (fun h19 => ?_)
   ·refine sZ 7 ?_
    refine Wp.condT rfl rfl ?_
    refine qZ ?_
    refine Wp.ret ⟨.inr rfl, fun lW => ⟨_, res_tmp (P := Tryz.prog) rfl rfl, _, rfl, ?_, lW⟩⟩
    clear lW
    rw [stand_in (entIn_no (by omega))]
   ·refine sQ 4 ?_
    refine sT (inr_any b 1000 _) ?_
    rintro v w3 rfl lw3
    rcases Bool.eq_false_or_eq_true ((decide (0 ≤ b) && decide (b ≤ 1000))) with h24 | h24
    ·rw [h24]
     simp only [Bool.and_eq_true, decide_eq_true_eq] at h24
     refine sZ 2 ?_
     refine Wp.condF rfl rfl ?_
     refine Wp.skip ?_
     refine Wp.seq ?_
     refine Wp.seq ?_
     have hin : entIn (a, b) = true := entIn_yes (by omega) (by omega) (by omega) (by omega) (by omega)
     refine wQ 1 ?_
     refine x_len rfl rfl rfl rfl rfl ?_
     refine p_eql rfl rfl rfl rfl rfl (fun h29 => ?_) (fun h29 => ?_)
     ·refine vOrd_nil ?_
      refine Wp.condT rfl rfl ?_
      refine qZ ?_
      refine Wp.ret ⟨.inr rfl, fun lW => ⟨_, res_tmp (P := Tryz.prog) rfl rfl, _, rfl, ?_, lW⟩⟩
      clear lW
      rw [stand_first (by omega) hin]
     ·refine vOrd_nil ?_
      refine Wp.condF rfl rfl ?_
      refine Wp.skip ?_
      refine Wp.seq ?_
      refine Wp.old (fun lo => ?_)
      obtain ⟨va1, vc1, ev, _, hcell⟩ := hv.later lo
      cases ev
      have hpos : 0 < es.length := by omega
      obtain ⟨x, hx⟩ : ∃ x, es[es.length - 1]? = some x := ⟨es[es.length - 1], List.getElem?_eq_getElem (by omega)⟩
      obtain ⟨i1, i2, vb, vo, rfl, k1, k2⟩ := hcell _ x hx
      have hxc := hc x hx
      unfold I64 at i1 i2
      obtain ⟨x1, x2⟩ := x
      simp only at k1 k2 i1 i2 hxc
      refine wQ 2 ?_
      refine x_len rfl rfl rfl rfl rfl ?_
      refine aM (-9223372036854775808) 9223372036854775807 ?_
      refine sI (sz := 2) (vo + (es.length - 1) * 2) ?_
      refine x_ldA [.int .i64 x1, .int .i64 x2] rfl rfl rfl rfl rfl rfl (World.block_lt_of_cell? _ _ k1) (fun j u hj => ?_) ?_
      ·match j, hj with
       | 0, hj => cases hj; exact k1
       | 1, hj => cases hj; exact k2
      refine sO (fun bk9 w9 kb9 lw9 => ?_)
      refine sS (fun w10 sw10 vw10 => ?_)
      refine vOrd_nil ?_
      refine qQ 4 ?_
      refine p_gtr rfl rfl rfl rfl rfl (fun h40 => ?_) (fun h40 => ?_)
      ·refine sQ 5 ?_
       refine aP (-9223372036854775808) 9223372036854775807 ?_
       refine p_eql rfl rfl rfl rfl rfl (fun h47 => ?_) (fun h47 => ?_)
       ·refine sZ 10 ?_
        refine Wp.ret ⟨.inr rfl, fun lW => ⟨_, res_tmp (P := Tryz.prog) rfl rfl, _, rfl, ?_, lW⟩⟩
        clear lW
        rw [stand_next (by omega) hx hin, decide_eq_true (show x1 < a by omega), decide_eq_true (show b = x2 + 1 by omega)]
        all_goals rfl
       ·refine sQ 5 ?_
        refine aM (-9223372036854775808) 9223372036854775807 ?_
        refine p_eql rfl rfl rfl rfl rfl (fun h54 => ?_) (fun h54 => ?_)
        ·refine sZ 3 ?_
         refine Wp.ret ⟨.inr rfl, fun lW => ⟨_, res_tmp (P := Tryz.prog) rfl rfl, _, rfl, ?_, lW⟩⟩
         clear lW
         rw [stand_next (by omega) hx hin, decide_eq_true (show x1 < a by omega), decide_eq_true (show b = x2 - 1 by omega), Bool.or_true]
         all_goals rfl
        ·refine sZ 3 ?_
         refine Wp.ret ⟨.inr rfl, fun lW => ⟨_, res_tmp (P := Tryz.prog) rfl rfl, _, rfl, ?_, lW⟩⟩
         clear lW
         rw [stand_next (by omega) hx hin, decide_eq_true (show x1 < a by omega), decide_eq_false (show ¬ b = x2 + 1 by omega), decide_eq_false (show ¬ b = x2 - 1 by omega)]
         all_goals rfl
      ·refine sZ 17 ?_
       refine Wp.ret ⟨.inr rfl, fun lW => ⟨_, res_tmp (P := Tryz.prog) rfl rfl, _, rfl, ?_, lW⟩⟩
       clear lW
       rw [stand_next (by omega) hx hin, decide_eq_false (show ¬ x1 < a by omega)]
       all_goals rfl
    ·rw [h24]
     rw [← Bool.not_eq_true] at h24
     simp only [Bool.and_eq_true, decide_eq_true_eq] at h24
     refine sZ 2 ?_
     refine Wp.condT rfl rfl ?_
     refine qZ ?_
     refine Wp.ret ⟨.inr rfl, fun lW => ⟨_, res_tmp (P := Tryz.prog) rfl rfl, _, rfl, ?_, lW⟩⟩
     clear lW
     rw [stand_in (entIn_no (by omega))]
  ·rw [h12]
   rw [← Bool.not_eq_true] at h12
   simp only [Bool.and_eq_true, decide_eq_true_eq] at h12
   refine sZ 14 ?_
   refine Wp.condT rfl rfl ?_
   refine qZ ?_
   refine Wp.ret ⟨.inr rfl, fun lW => ⟨_, res_tmp (P := Tryz.prog) rfl rfl, _, rfl, ?_, lW⟩⟩
   clear lW
   rw [stand_in (entIn_no (by omega))]
theorem lmay_at {es : List Ent} {i : Nat} {x : Ent} (hx : es[i]? = some x) {a : Option Addr} {n c : Nat} {w : World} (hv : EntAt w (.slice a n c) es) (hok : ∀ j, j < i → okAt es j = true) :
  Calls Tryz.prog 76 #[.agg #[.int .i64 x.1, .int .i64 x.2], .slice a i c] w fun e w' => ∃ r, e = .returned r ∧ r = .bool (okAt es i) ∧ Below w.heap.size w w' := by
 have hi := (List.getElem?_eq_some_iff.1 hx).1
 obtain ⟨i1, i2⟩ : I64 x.1 ∧ I64 x.2 := by
  obtain ⟨_, _, _, _, hc⟩ := hv
  exact ⟨(hc i x hx).1, (hc i x hx).2.1⟩
 rw [ok_at hx]
 exact may_any i1 i2 (hv.take (by omega)) (fun y hy => by have := ok_last (by omega) hok hy; omega)
theorem entry_at {es : List Ent} {i : Nat} {x : Ent} (hx : es[i]? = some x) {a : Option Addr} {n c : Nat} {w : World} (hv : EntAt w (.slice a n c) es) (hok : ∀ j, j < i → okAt es j = true) :
  Calls Tryz.prog 29 #[.slice a i c, .agg #[.int .i64 x.1, .int .i64 x.2]] w fun e w' => ∃ r, e = .returned r ∧ r = .bool (okAt es i) ∧ Below w.heap.size w w' := by
 have hi := (List.getElem?_eq_some_iff.1 hx).1
 obtain ⟨i1, i2⟩ : I64 x.1 ∧ I64 x.2 := by
  obtain ⟨_, _, _, _, hc⟩ := hv
  exact ⟨(hc i x hx).1, (hc i x hx).2.1⟩
 rw [ok_at hx]
 exact rentry_any i1 i2 (hv.take (by omega)) (fun y hy => by have := ok_last (by omega) hok hy; omega)
/-- How a table lies in memory. -/
def tbV (t : Tb) (v : Value) : Value := .agg #[.int .i64 t.u, .int .i64 t.e, v]

theorem ok_lt {es : List Ent} {i : Nat} (hi : i < es.length) (h : okAt es i = true) : i < 64 := by
 rw [ok_at (List.getElem?_eq_getElem hi)] at h
 have := (stand_spec h).1
 rw [List.length_take] at this
 omega
theorem inS_no {n : Int} (h : ¬ (0 ≤ n ∧ n < 1000000000000000000)) : inS n = false := by
 rw [← Bool.not_eq_true]; exact fun q => h (inS_spec.1 q)
theorem inS_of {n : Int} {q : Bool} (h : (decide (0 ≤ n) && decide (n ≤ 999999999999999999)) = q) : inS n = q := by
 rw [← h]; unfold inS; congr 1
 exact decide_eq_decide.2 (by omega)
theorem check_any (t : Tb) (hu : I64 t.u) (he : I64 t.e) {v : Value} {w : World} (hv : EntAt w v t.es) : Calls Tryz.prog 48 #[tbV t v] w fun e w' => ∃ r, e = .returned r ∧ r = .tuple #[.int .i64 (place t : Int), .int .i64 (if canBe t = true then 0 else 10)] ∧ Below w.heap.size w w' := by
 obtain ⟨tu, te, es⟩ := t
 simp only at hu he hv
 unfold I64 at hu he
 unfold tbV
 obtain ⟨va, vc, rfl, hlc⟩ : ∃ va vc, v = .slice va es.length vc ∧ es.length ≤ vc := by
  obtain ⟨va, vc, h1, h2, _⟩ := hv
  exact ⟨va, vc, h1, h2⟩
 refine calls_Wp (args := [_]) (n := 42) Tryz.func48 rfl rfl (by simp) ?_
 refine Wp.seq ?_
 refine wR [0, 1, 2] ?_
 refine sE (fun bk1 w1 kb1 lw1 => ?_)
 refine sZ 2 ?_
 refine Wp.seq ?_
 refine qQ 2 ?_
 refine x_len rfl rfl rfl rfl rfl ?_
 refine sZ 1 ?_
 refine Wp.block ?_
 refine Wp.loop (fun k st W => ∃ (i : Nat) (p : Int), st = St.of [(1, .p 1 bk1 0), (7, .v (.slice va es.length vc)), (8, .v (.int .i64 (es.length : Int))), (9, .v (.int .i64 p))] [(1, bk1, [.int .i64 tu, .int .i64 te, .slice va es.length vc])] ∧ p = i ∧ i ≤ es.length ∧ badFrom es (es.length - i) i = firstBad es ∧ (∀ j, j < i → okAt es j = true) ∧ k = es.length - i) ?_ ?_
 ·exact ⟨_, _, (St.of_le' (env := [(1, .p 1 _ 0), (7, .v _), (8, .v _), (9, .v _)]) (mem := [(1, _, [_, _, _])]) ⟨rfl, rfl, rfl, rfl, trivial⟩ ⟨rfl, trivial⟩), 0, 0, rfl, rfl, Nat.zero_le _, rfl, fun j hj => by omega, rfl⟩
 ·rintro k st w2 ⟨i, p, rfl, rfl, hi, hbf, hok, rfl⟩
  refine Wp.seq ?_
  refine wR [0] ?_
  refine p_lss rfl rfl rfl rfl rfl (fun h10 => ?_) (fun h10 => ?_)
  ·refine vOrd_nil ?_
   refine Wp.seq ?_
   refine Wp.condT rfl rfl ?_
   refine Wp.skip ?_
   refine Wp.seq ?_
   refine Wp.block ?_
   refine Wp.seq ?_
   have hin : i < es.length := by omega
   obtain ⟨x, hx⟩ : ∃ x, es[i]? = some x := ⟨es[i], List.getElem?_eq_getElem hin⟩
   refine Wp.old (fun lo => ?_)
   have hE := hv.later lo
   obtain ⟨va1, vc1, ev, _, hcell⟩ := hE
   obtain ⟨i1, i2, vb, vo, rfl, k1, k2⟩ := hcell _ x hx
   cases ev
   unfold I64 at i1 i2
   clear hcell
   refine wQ 1 ?_
   refine sI (sz := 2) (vo + i * 2) ?_
   refine x_ldA [.int .i64 x.1, .int .i64 x.2] rfl rfl rfl rfl rfl rfl (World.block_lt_of_cell? _ _ k1) (fun j u hj => ?_) ?_
   ·match j, hj with
    | 0, hj => cases hj; exact k1
    | 1, hj => cases hj; exact k2
   refine sO (fun bk8 w8 kb8 lw8 => ?_)
   refine sA ?_
   refine sS (fun w9 sw9 vw9 => ?_)
   refine vOrd_nil ?_
   refine Wp.seq ?_
   refine Wp.old (fun lo => ?_)
   have hE := hv.later lo
   refine wD [0, 1, 2, 3, 4, 5, 6] [30, 9, 11, 0, 0, 0, 0] (fun | 5 => fun v _ => v = .bool (okAt es i) | _ => fun _ _ => True) (fun wd ld => ?_)
   have hEd := hE.later ld
   refine sQ 4 ?_
   refine x_to (sz := 2) rfl rfl rfl rfl rfl rfl rfl (by omega) (by omega) ?_
   refine sD (fun wc lc => lmay_at hx (hEd.later lc) hok) ?_
   rintro v w11 u11 rfl lw11 mw11
   refine sZ 1 ?_
   refine Wp.cond rfl (okOpd_spec rfl) (fun c20 => ?_) (fun c20 => ?_)
   ·have hno : okAt es i = false := by simpa using c20
    obtain ⟨q1, q2⟩ := can_bad (t := ⟨tu, te, es⟩) hin ((bad_step hin hbf).2 hno)
    refine qZ ?_
    refine Wp.ret ⟨.inr rfl, fun lW => ⟨_, ⟨_, _, res_tmp (P := Tryz.prog) rfl rfl, res_tmp (P := Tryz.prog) rfl rfl, rfl⟩, _, rfl, ?_, lW⟩⟩
    clear lW
    rw [q1, q2]
    rfl
   ·have hyes : okAt es i = true := by simpa using c20
    have h64 := ok_lt hin hyes
    refine Wp.skip ?_
    refine wR [0, 1] ?_
    refine aP (-9223372036854775808) 9223372036854775807 ?_
    refine sZ 1 ?_
    exact ⟨_, _, by omega, (St.of_le' (env := [(1, .p 1 _ 0), (7, .v _), (8, .v _), (9, .v _)]) (mem := [(1, _, [_, _, _])]) ⟨rfl, rfl, rfl, rfl, trivial⟩ ⟨rfl, trivial⟩), i + 1, _, rfl, by omega, by omega, (bad_step hin hbf).1 hyes, fun j hj => by rcases Nat.lt_or_ge j i with q | q; exact hok j q; rw [show j = i by omega]; exact hyes, rfl⟩
  ·refine vOrd_nil ?_
   refine Wp.seq ?_
   refine Wp.condF rfl rfl ?_
   refine Wp.exit ?_
   refine Wp.seq ?_
   refine Wp.seq ?_
   have hfb := bad_end (by omega) hbf
   refine wQ 2 ?_
   refine x_len rfl rfl rfl rfl rfl ?_
   refine p_eql rfl rfl rfl rfl rfl (fun h26 => ?_) (fun h26 => ?_)
   ·refine sZ 12 ?_
    refine Wp.condT rfl rfl ?_
    refine qQ 2 ?_
    refine x_len rfl rfl rfl rfl rfl ?_
    refine sZ 2 ?_
    refine Wp.ret ⟨.inr rfl, fun lW => ⟨_, ⟨_, _, res_tmp (P := Tryz.prog) rfl rfl, res_tmp (P := Tryz.prog) rfl rfl, rfl⟩, _, rfl, ?_, lW⟩⟩
    clear lW
    obtain ⟨q1, q2⟩ := can_end (t := ⟨tu, te, es⟩) hfb (by simp only; rw [decide_eq_false (by omega)]; rfl)
    rw [q1, q2]
    rfl
   ·refine sQ 3 ?_
    refine sT (inr_any tu 999999999999999999 _) ?_
    rintro v w12 rfl lw12
    rcases Bool.eq_false_or_eq_true ((decide (0 ≤ tu) && decide (tu ≤ 999999999999999999))) with h30 | h30
    ·rw [h30]
     refine sQ 5 ?_
     refine sT (inr_any te 999999999999999999 _) ?_
     rintro v w13 rfl lw13
     rcases Bool.eq_false_or_eq_true ((decide (0 ≤ te) && decide (te ≤ 999999999999999999))) with h36 | h36
     ·rw [h36]
      refine sZ 2 ?_
      refine Wp.condF rfl rfl ?_
      refine Wp.skip ?_
      refine qZ ?_
      refine Wp.ret ⟨.inr rfl, fun lW => ⟨_, ⟨_, _, res_tmp (P := Tryz.prog) rfl rfl, res_tmp (P := Tryz.prog) rfl rfl, rfl⟩, _, rfl, ?_, lW⟩⟩
      clear lW
      have q1 := can_yes (t := ⟨tu, te, es⟩) hfb (by simp only; rw [inS_of h30, inS_of h36, decide_eq_true (by omega)]; rfl)
      rw [can_place q1, q1]
      rfl
     ·rw [h36]
      refine sZ 2 ?_
      refine Wp.condT rfl rfl ?_
      refine qQ 2 ?_
      refine x_len rfl rfl rfl rfl rfl ?_
      refine sZ 2 ?_
      refine Wp.ret ⟨.inr rfl, fun lW => ⟨_, ⟨_, _, res_tmp (P := Tryz.prog) rfl rfl, res_tmp (P := Tryz.prog) rfl rfl, rfl⟩, _, rfl, ?_, lW⟩⟩
      clear lW
      obtain ⟨q1, q2⟩ := can_end (t := ⟨tu, te, es⟩) hfb (by simp only; rw [inS_of h36, Bool.and_false, Bool.and_false])
      rw [q1, q2]
      rfl
    ·rw [h30]
     refine sZ 8 ?_
     refine Wp.condT rfl rfl ?_
     refine qQ 2 ?_
     refine x_len rfl rfl rfl rfl rfl ?_
     refine sZ 2 ?_
     refine Wp.ret ⟨.inr rfl, fun lW => ⟨_, ⟨_, _, res_tmp (P := Tryz.prog) rfl rfl, res_tmp (P := Tryz.prog) rfl rfl, rfl⟩, _, rfl, ?_, lW⟩⟩
     clear lW
     obtain ⟨q1, q2⟩ := can_end (t := ⟨tu, te, es⟩) hfb (by simp only; rw [inS_of h30, Bool.false_and, Bool.and_false])
     rw [q1, q2]
     rfl
theorem rtable_any (t : Tb) (hu : I64 t.u) (he : I64 t.e) {v : Value} {w : World} (hv : EntAt w v t.es) : Calls Tryz.prog 9 #[tbV t v] w fun e w' => ∃ r, e = .returned r ∧ r = .tuple #[.int .i64 (place t : Int), .bool (canBe t)] ∧ Below w.heap.size w w' := by
 obtain ⟨tu, te, es⟩ := t
 simp only at hu he hv
 unfold I64 at hu he
 unfold tbV
 obtain ⟨va, vc, rfl, hlc⟩ : ∃ va vc, v = .slice va es.length vc ∧ es.length ≤ vc := by
  obtain ⟨va, vc, h1, h2, _⟩ := hv
  exact ⟨va, vc, h1, h2⟩
 refine calls_Wp (args := [_]) (n := 54) Tryz.func9 rfl rfl (by simp) ?_
 refine Wp.seq ?_
 refine wR [0, 1, 2] ?_
 refine sE (fun bk1 w1 kb1 lw1 => ?_)
 refine sZ 2 ?_
 refine Wp.seq ?_
 refine qZ ?_
 refine Wp.block ?_
 refine Wp.loop (fun k st W => ∃ (i : Nat) (p : Int), st = St.of [(1, .p 1 bk1 0), (4, .v (.int .i64 p))] [(1, bk1, [.int .i64 tu, .int .i64 te, .slice va es.length vc])] ∧ p = i ∧ i ≤ es.length ∧ badFrom es (es.length - i) i = firstBad es ∧ (∀ j, j < i → okAt es j = true) ∧ k = es.length - i) ?_ ?_
 ·exact ⟨_, _, (St.of_le' (env := [(1, .p 1 _ 0), (4, .v _)]) (mem := [(1, _, [_, _, _])]) ⟨rfl, rfl, trivial⟩ ⟨rfl, trivial⟩), 0, 0, rfl, rfl, Nat.zero_le _, rfl, fun j hj => by omega, rfl⟩
 ·rintro k st w2 ⟨i, p, rfl, rfl, hi, hbf, hok, rfl⟩
  refine Wp.seq ?_
  refine qQ 3 ?_
  refine x_len rfl rfl rfl rfl rfl ?_
  refine p_lss rfl rfl rfl rfl rfl (fun h10 => ?_) (fun h10 => ?_)
  ·refine vOrd_nil ?_
   refine Wp.condT rfl rfl ?_
   refine Wp.skip ?_
   refine Wp.seq ?_
   refine Wp.block ?_
   refine Wp.seq ?_
   have hin : i < es.length := by omega
   obtain ⟨x, hx⟩ : ∃ x, es[i]? = some x := ⟨es[i], List.getElem?_eq_getElem hin⟩
   refine Wp.old (fun lo => ?_)
   have hE := hv.later lo
   obtain ⟨va1, vc1, ev, _, hcell⟩ := hE
   obtain ⟨i1, i2, vb, vo, rfl, k1, k2⟩ := hcell _ x hx
   cases ev
   unfold I64 at i1 i2
   refine wD [0, 1, 2, 3, 4, 5, 6, 7, 8, 9, 10] [500, 501, 499, 503, 79, 95, 0, 0, 0, 0, 0] (fun | 9 => fun v _ => v = .bool (okAt es i) | _ => fun _ _ => True) (fun wd ld => ?_)
   have hEd := (hv.later lo).later ld
   have k1 := (World.cell?_of_block (ld.block _ (World.block_lt_of_cell? _ _ k1))).trans k1
   have k2 := (World.cell?_of_block (ld.block _ (World.block_lt_of_cell? _ _ k2))).trans k2
   refine sQ 3 ?_
   refine x_to (sz := 2) rfl rfl rfl rfl rfl rfl rfl (by omega) (by omega) ?_
   refine sQ 3 ?_
   refine sI (sz := 2) (vo + i * 2) ?_
   refine x_ldA [.int .i64 x.1, .int .i64 x.2] rfl rfl rfl rfl rfl rfl (World.block_lt_of_cell? _ _ k1) (fun j u hj => ?_) ?_
   ·match j, hj with
    | 0, hj => cases hj; exact k1
    | 1, hj => cases hj; exact k2
   refine sD (fun wc lc => entry_at hx (hEd.later lc) hok) ?_
   rintro v w9 u9 rfl lw9 mw9
   refine sZ 1 ?_
   refine Wp.cond rfl (okOpd_spec rfl) (fun c23 => ?_) (fun c23 => ?_)
   ·have hno : okAt es i = false := by simpa using c23
    obtain ⟨q1, q2⟩ := can_bad (t := ⟨tu, te, es⟩) hin ((bad_step hin hbf).2 hno)
    refine qZ ?_
    refine Wp.ret ⟨.inr rfl, fun lW => ⟨_, ⟨_, _, res_tmp (P := Tryz.prog) rfl rfl, res_tmp (P := Tryz.prog) rfl rfl, rfl⟩, _, rfl, ?_, lW⟩⟩
    clear lW
    rw [q1, q2]
   ·have hyes : okAt es i = true := by simpa using c23
    have h64 := ok_lt hin hyes
    refine Wp.skip ?_
    refine wQ 1 ?_
    refine aP (-9223372036854775808) 9223372036854775807 ?_
    refine sZ 1 ?_
    exact ⟨_, _, by omega, (St.of_le' (env := [(1, .p 1 _ 0), (4, .v _)]) (mem := [(1, _, [_, _, _])]) ⟨rfl, rfl, trivial⟩ ⟨rfl, trivial⟩), i + 1, _, rfl, by omega, by omega, (bad_step hin hbf).1 hyes, fun j hj => by rcases Nat.lt_or_ge j i with q | q; exact hok j q; rw [show j = i by omega]; exact hyes, rfl⟩
  ·refine vOrd_nil ?_
   refine Wp.condF rfl rfl ?_
   refine Wp.exit ?_
   refine Wp.seq ?_
   have hfb := bad_end (by omega) hbf
   refine wQ 2 ?_
   refine x_len rfl rfl rfl rfl rfl ?_
   refine p_gtr rfl rfl rfl rfl rfl (fun h28 => ?_) (fun h28 => ?_)
   ·refine sQ 3 ?_
    refine p_geq rfl rfl rfl rfl rfl (fun h32 => ?_) (fun h32 => ?_)
    ·refine sQ 4 ?_
     refine p_lss rfl rfl rfl rfl rfl (fun h37 => ?_) (fun h37 => ?_)
     ·refine sQ 4 ?_
      refine p_geq rfl rfl rfl rfl rfl (fun h42 => ?_) (fun h42 => ?_)
      ·refine sQ 4 ?_
       refine p_lss rfl rfl rfl rfl rfl (fun h47 => ?_) (fun h47 => ?_)
       ·refine sZ 2 ?_
        refine Wp.seq ?_
        refine qZ ?_
        refine Wp.condF rfl rfl ?_
        refine Wp.skip ?_
        refine qZ ?_
        refine Wp.ret ⟨.inr rfl, fun lW => ⟨_, ⟨_, _, res_tmp (P := Tryz.prog) rfl rfl, res_tmp (P := Tryz.prog) rfl rfl, rfl⟩, _, rfl, ?_, lW⟩⟩
        clear lW
        have q1 := can_yes (t := ⟨tu, te, es⟩) hfb (by simp only; rw [inS_spec.2 (by omega), inS_spec.2 (by omega), decide_eq_true (by omega)]; rfl)
        rw [can_place q1, q1]
        rfl
       ·refine sZ 2 ?_
        refine Wp.seq ?_
        refine qZ ?_
        refine Wp.condT rfl rfl ?_
        refine qQ 2 ?_
        refine x_len rfl rfl rfl rfl rfl ?_
        refine sZ 2 ?_
        refine Wp.ret ⟨.inr rfl, fun lW => ⟨_, ⟨_, _, res_tmp (P := Tryz.prog) rfl rfl, res_tmp (P := Tryz.prog) rfl rfl, rfl⟩, _, rfl, ?_, lW⟩⟩
        clear lW
        obtain ⟨q1, q2⟩ := can_end (t := ⟨tu, te, es⟩) hfb (by simp only; rw [inS_no (n := te) (by omega), Bool.and_false, Bool.and_false])
        rw [q1, q2]
      ·refine sZ 7 ?_
       refine Wp.seq ?_
       refine qZ ?_
       refine Wp.condT rfl rfl ?_
       refine qQ 2 ?_
       refine x_len rfl rfl rfl rfl rfl ?_
       refine sZ 2 ?_
       refine Wp.ret ⟨.inr rfl, fun lW => ⟨_, ⟨_, _, res_tmp (P := Tryz.prog) rfl rfl, res_tmp (P := Tryz.prog) rfl rfl, rfl⟩, _, rfl, ?_, lW⟩⟩
       clear lW
       obtain ⟨q1, q2⟩ := can_end (t := ⟨tu, te, es⟩) hfb (by simp only; rw [inS_no (n := te) (by omega), Bool.and_false, Bool.and_false])
       rw [q1, q2]
     ·refine sZ 12 ?_
      refine Wp.seq ?_
      refine qZ ?_
      refine Wp.condT rfl rfl ?_
      refine qQ 2 ?_
      refine x_len rfl rfl rfl rfl rfl ?_
      refine sZ 2 ?_
      refine Wp.ret ⟨.inr rfl, fun lW => ⟨_, ⟨_, _, res_tmp (P := Tryz.prog) rfl rfl, res_tmp (P := Tryz.prog) rfl rfl, rfl⟩, _, rfl, ?_, lW⟩⟩
      clear lW
      obtain ⟨q1, q2⟩ := can_end (t := ⟨tu, te, es⟩) hfb (by simp only; rw [inS_no (by omega), Bool.false_and, Bool.and_false])
      rw [q1, q2]
    ·refine sZ 17 ?_
     refine Wp.seq ?_
     refine qZ ?_
     refine Wp.condT rfl rfl ?_
     refine qQ 2 ?_
     refine x_len rfl rfl rfl rfl rfl ?_
     refine sZ 2 ?_
     refine Wp.ret ⟨.inr rfl, fun lW => ⟨_, ⟨_, _, res_tmp (P := Tryz.prog) rfl rfl, res_tmp (P := Tryz.prog) rfl rfl, rfl⟩, _, rfl, ?_, lW⟩⟩
     clear lW
     obtain ⟨q1, q2⟩ := can_end (t := ⟨tu, te, es⟩) hfb (by simp only; rw [inS_no (by omega), Bool.false_and, Bool.and_false])
     rw [q1, q2]
   ·refine sZ 21 ?_
    refine Wp.seq ?_
    refine qZ ?_
    refine Wp.condT rfl rfl ?_
    refine qQ 2 ?_
    refine x_len rfl rfl rfl rfl rfl ?_
    refine sZ 2 ?_
    refine Wp.ret ⟨.inr rfl, fun lW => ⟨_, ⟨_, _, res_tmp (P := Tryz.prog) rfl rfl, res_tmp (P := Tryz.prog) rfl rfl, rfl⟩, _, rfl, ?_, lW⟩⟩
    clear lW
    obtain ⟨q1, q2⟩ := can_end (t := ⟨tu, te, es⟩) hfb (by simp only; rw [decide_eq_false (by omega)]; rfl)
    rw [q1, q2]
theorem run_ne_ent (a b : Int) (w : World) : (binOp .neq 68 (.agg #[.int .i64 a, .int .i64 b]) (.agg #[.int .i64 a, .int .i64 b])).run Tryz.prog w = .ok (.bool false) w := by
 have h : (Op.equal 68 (.agg #[.int .i64 a, .int .i64 b]) (.agg #[.int .i64 a, .int .i64 b])).run Tryz.prog w = .ok true w := by
  have hi : ∀ (n : Int) (w : World), (Op.equalIn 9999 3 (.int .i64 n) (.int .i64 n)).run Tryz.prog w = .ok true w := fun n w => by rw [run_equalIn_int w 9998 3 .i64 .i64 n n rfl]; simp
  simp only [Op.equal, Op.maxDepth]
  rw [run_equalIn_struct (P := Tryz.prog) w 9999 68 _ _ (by kernel_rfl) (by kernel_rfl)]
  have e : (Tryz.prog.fieldsOf 68).toList = [⟨ "At", 3, 0, false, "", "", 0⟩, ⟨ "Off", 3, 1, false, "", "", 8⟩] := by kernel_rfl
  rw [e]
  simp only [Op.eqFields]
  simp [hi, part, isAgg, run_underlying]
 show (do pure (.bool (!(← Op.equal 68 (.agg #[.int .i64 a, .int .i64 b]) (.agg #[.int .i64 a, .int .i64 b])))) : Sem Value).run Tryz.prog w = _
 rw [Sem.run_bind, h]
 rfl

theorem tsame_any (t : Tb) (hu : I64 t.u) (he : I64 t.e) {v : Value} {w : World} (hv : EntAt w v t.es) {v2 : Value} (hv2 : EntAt w v2 t.es) (hl : t.es.length ≤ 9223372036854775807) : Calls Tryz.prog 13 #[tbV t v, tbV t v2] w fun e w' => ∃ r, e = .returned r ∧ r = .bool true ∧ Below w.heap.size w w' := by
 obtain ⟨tu, te, es⟩ := t
 simp only at hu he hv hv2 hl
 unfold I64 at hu he
 unfold tbV
 obtain ⟨va2, vc2, rfl, hlc2⟩ : ∃ va vc, v2 = .slice va es.length vc ∧ es.length ≤ vc := by
  obtain ⟨va, vc, h1, h2, _⟩ := hv2
  exact ⟨va, vc, h1, h2⟩
 obtain ⟨va, vc, rfl, hlc⟩ : ∃ va vc, v = .slice va es.length vc ∧ es.length ≤ vc := by
  obtain ⟨va, vc, h1, h2, _⟩ := hv
  exact ⟨va, vc, h1, h2⟩
 refine calls_Wp (args := [_, _]) (n := 45) Tryz.func13 rfl rfl (by simp) ?_
 refine Wp.seq ?_
 refine wR [0, 1, 2] ?_
 refine sE (fun bk1 w1 kb1 lw1 => ?_)
 refine sE (fun bk2 w2 kb2 lw2 => ?_)
 refine sZ 1 ?_
 refine Wp.seq ?_
 refine qQ 4 ?_
 refine f_neq rfl rfl rfl rfl rfl (by omega) ?_
 refine sQ 5 ?_
 refine f_neq rfl rfl rfl rfl rfl (by omega) ?_
 refine sQ 4 ?_
 refine x_len rfl rfl rfl rfl rfl ?_
 refine sQ 2 ?_
 refine x_len rfl rfl rfl rfl rfl ?_
 refine f_neq rfl rfl rfl rfl rfl (by omega) ?_
 refine sZ 1 ?_
 refine Wp.condF rfl rfl ?_
 refine Wp.skip ?_
 refine Wp.seq ?_
 refine qZ ?_
 refine Wp.block ?_
 refine Wp.loop (fun k st W => ∃ (i : Nat) (p : Int), st = St.of [(2, .p 2 bk1 0), (3, .p 3 bk2 0), (5, .v (.int .i64 p))] [(2, bk1, [.int .i64 tu, .int .i64 te, .slice va es.length vc]), (3, bk2, [.int .i64 tu, .int .i64 te, .slice va2 es.length vc2])] ∧ p = i ∧ i ≤ es.length ∧ k = es.length - i) ?_ ?_
 ·exact ⟨_, _, (St.of_le' (env := [(2, .p 2 _ 0), (3, .p 3 _ 0), (5, .v _)]) (mem := [(2, _, [_, _, _]), (3, _, [_, _, _])]) ⟨rfl, rfl, rfl, trivial⟩ ⟨rfl, rfl, trivial⟩), 0, 0, rfl, rfl, Nat.zero_le _, rfl⟩
 ·rintro k st w3 ⟨i, p, rfl, rfl, hi, rfl⟩
  refine Wp.seq ?_
  refine qQ 3 ?_
  refine x_len rfl rfl rfl rfl rfl ?_
  refine p_lss rfl rfl rfl rfl rfl (fun h31 => ?_) (fun h31 => ?_)
  ·refine vOrd_nil ?_
   refine Wp.condT rfl rfl ?_
   refine Wp.skip ?_
   refine Wp.seq ?_
   refine Wp.block ?_
   refine Wp.seq ?_
   have hin : i < es.length := by omega
   obtain ⟨x, hx⟩ : ∃ x, es[i]? = some x := ⟨es[i], List.getElem?_eq_getElem hin⟩
   refine Wp.old (fun lo => ?_)
   have hE := hv.later lo
   obtain ⟨va1, vc1, ev, _, hcell⟩ := hE
   obtain ⟨i1, i2, vb, vo, rfl, k1, k2⟩ := hcell _ x hx
   cases ev
   have hE2 := hv2.later lo
   obtain ⟨va3, vc3, ev2, _, hcell2⟩ := hE2
   obtain ⟨_, _, vb2, vo2, rfl, l1, l2⟩ := hcell2 _ x hx
   cases ev2
   refine wD [0, 1, 2, 3, 4, 5, 6, 7, 8, 9, 10] [996, 997, 995, 999, 1007, 159, 191, 0, 0, 0, 0] (fun _ _ _ => True) (fun wd ld => ?_)
   have k1 := (World.cell?_of_block (ld.block _ (World.block_lt_of_cell? _ _ k1))).trans k1
   have k2 := (World.cell?_of_block (ld.block _ (World.block_lt_of_cell? _ _ k2))).trans k2
   have l1 := (World.cell?_of_block (ld.block _ (World.block_lt_of_cell? _ _ l1))).trans l1
   have l2 := (World.cell?_of_block (ld.block _ (World.block_lt_of_cell? _ _ l2))).trans l2
   refine sQ 3 ?_
   refine sI (sz := 2) (vo + i * 2) ?_
   refine x_ldA [.int .i64 x.1, .int .i64 x.2] rfl rfl rfl rfl rfl rfl (World.block_lt_of_cell? _ _ k1) (fun j u hj => ?_) ?_
   ·match j, hj with
    | 0, hj => cases hj; exact k1
    | 1, hj => cases hj; exact k2
   refine sQ 3 ?_
   refine sI (sz := 2) (vo2 + i * 2) ?_
   refine x_ldA [.int .i64 x.1, .int .i64 x.2] rfl rfl rfl rfl rfl rfl (World.block_lt_of_cell? _ _ l1) (fun j u hj => ?_) ?_
   ·match j, hj with
    | 0, hj => cases hj; exact l1
    | 1, hj => cases hj; exact l2
   refine s_eqv (c := false) rfl rfl rfl rfl rfl (fun _ => by kernel_rfl) (fun w => run_ne_ent x.1 x.2 w) ?_
   refine vOrd_nil ?_
   refine Wp.condF rfl rfl ?_
   refine Wp.skip ?_
   refine wQ 1 ?_
   refine aP (-9223372036854775808) 9223372036854775807 ?_
   refine sZ 1 ?_
   exact ⟨_, _, by omega, (St.of_le' (env := [(2, .p 2 _ 0), (3, .p 3 _ 0), (5, .v _)]) (mem := [(2, _, [_, _, _]), (3, _, [_, _, _])]) ⟨rfl, rfl, rfl, trivial⟩ ⟨rfl, rfl, trivial⟩), i + 1, _, rfl, by omega, by omega, rfl⟩
  ·refine vOrd_nil ?_
   refine Wp.condF rfl rfl ?_
   refine Wp.exit ?_
   refine qZ ?_
   refine Wp.ret ⟨.inr rfl, fun lW => ⟨_, res_tmp (P := Tryz.prog) rfl rfl, _, rfl, ?_, lW⟩⟩
   clear lW
   rfl
end Go.Proofs.YtdpodbfamgafiaaGreat
