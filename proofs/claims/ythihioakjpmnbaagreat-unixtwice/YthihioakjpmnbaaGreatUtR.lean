/-
 The reference's Form, Why, Tai and Label of layers 12 and 13. Of tables that may be.
-/
import Derived.Test.YthihioakjpmnbaaGreatLpB
import Derived.Test.YthihioakjpmnbaaGreatSegA
namespace Go.Proofs.YthihioakjpmnbaaGreat
open Go.RowKit
set_option maxRecDepth 100000

theorem ent_at {w : World} {a : Option Addr} {c0 : Nat} {es : List Ent} (hv : EntAt w (.slice a es.length c0) es) (h0 : 0 < es.length) : ∃ ab ao, a = some ⟨ab, ao, none⟩ ∧ ∀ j x, es[j]? = some x → w.cell? ⟨ab, ao + j * 2, none⟩ = some (.int .i64 x.1) ∧ w.cell? ⟨ab, ao + j * 2 + 1, none⟩ = some (.int .i64 x.2) := by
 obtain ⟨ab, ao, h, hc⟩ := ent_src hv h0
 refine ⟨ab, ao, h, fun j x hx => ?_⟩
 have hh := entC_at es j x hx
 exact ⟨hc _ _ hh.1, hc _ _ hh.2⟩
theorem off_step {es : List Ent} {K i : Nat} {x : Ent} (h : i < K) (hx : es[i]? = some x) : offA es (min (i + 1) K) = x.2 ∧ decide (0 < min (i + 1) K) = true := by
 rw [Nat.min_eq_left (by omega)]
 exact ⟨(A_at hx).2.2, by simp⟩
theorem more_hit {t : Tb} (hb : canBe t = true) {K i : Nat} {day : Int} (hcut : Cut (pDay day) t.es K) {x y : Ent} (hx : t.es[i]? = some x) (hy : t.es[i + 1]? = some y) (h : dayE y - 1 = day) : moreA t.es K day = y.2 - x.2 := by
 have h1 := hcut.2 i x hx
 have h2 := hcut.2 (i + 1) y hy
 have h3 := (can_less hb (Nat.lt_succ_self i) hx hy).1
 unfold pDay at h1 h2
 rw [decide_eq_decide] at h1 h2
 have e1 : i < K := h1.1 (by omega)
 have e2 : ¬ i + 1 < K := fun q => by have := h2.2 q; omega
 obtain rfl : K = i + 1 := by omega
 unfold moreA untilA chgA untilE chgE
 simp only [hx, hy]
 rw [if_pos (by omega)]
theorem more_none {es : List Ent} {K : Nat} {day : Int} (h : ∀ i y, 0 < i → es[i]? = some y → ¬ dayE y - 1 = day) : moreA es K day = 0 := by
 unfold moreA
 split
 ·rename_i hu
  cases K with
  | zero => rfl
  | succ j =>
   simp only [untilA, untilE] at hu
   simp only [chgA, chgE]
   cases hy : es[j + 1]? with
   | none => rfl
   | some y =>
    rw [hy] at hu
    simp only at hu
    exact absurd (show dayE y - 1 = day by omega) (h (j + 1) y (by omega) hy)
 ·rfl
theorem rday_any (x : Ent) (h1 : 0 ≤ x.1 ∧ x.1 ≤ 1125899906842624) {w : World} : Calls Tryz.prog 21 #[.agg #[.int .i64 x.1, .int .i64 x.2]] w fun e w' => ∃ r, e = .returned r ∧ r = .int .i64 (dayE x) ∧ Below w.heap.size w w' := by
 unfold dayE
 refine calls_Wp (args := [_]) (n := 7) Tryz.func21 rfl rfl (by simp) ?_
 refine Wp.seq ?_
 refine wR [0, 1] ?_
 refine sE (fun bk1 w1 kb1 lw1 => ?_)
 refine sZ 1 ?_
 refine qQ 2 ?_
 refine a_quo rfl rfl rfl rfl rfl (by omega) (by omega) (by show _ ≤ (9223372036854775807 : Int); omega) ?_
 refine aP (-9223372036854775808) 9223372036854775807 ?_
 refine sZ 1 ?_
 refine Wp.ret ⟨.inr rfl, fun lW => ⟨_, res_tmp (P := Tryz.prog) rfl rfl, _, rfl, ?_, lW⟩⟩
 clear lW
 rfl
theorem roffset_any (t : Tb) (hb : canBe t = true) {a : Option Addr} {c0 : Nat} {w : World} (hv : EntAt w (.slice a t.es.length c0) t.es) {day : Int} {K : Nat} (hcut : Cut (pDay day) t.es K) : Calls Tryz.prog 103 #[tbV t (.slice a t.es.length c0), .int .i64 day] w fun e w' => ∃ r, e = .returned r ∧ r = .tuple #[.int .i64 (offA t.es K), .bool (decide (0 < K))] ∧ Below w.heap.size w w' := by
 have hn := can_len hb
 have hpos := (can_num hb).2.2
 have hin := fun j e => can_in hb (j := j) (e := e)
 obtain ⟨ab, ao, rfl, hcell⟩ := ent_at hv hpos
 unfold tbV
 refine calls_Wp (args := [_, _]) (n := 32) Tryz.func103 rfl rfl (by simp) ?_
 refine Wp.seq ?_
 refine wR [0, 1, 2] ?_
 refine sE (fun bk1 w1 kb1 lw1 => ?_)
 refine sZ 2 ?_
 refine qZ ?_
 refine Wp.seq ?_
 refine qZ ?_
 refine Wp.block ?_
 refine Wp.loop (fun k st W => ∃ (i : Nat) (p o : Int) (q : Bool), st = St.of [(1, .v (.int .i64 day)), (2, .p 2 bk1 0), (6, .v (.int .i64 o)), (7, .v (.bool q)), (8, .v (.int .i64 p))] [(2, bk1, [.int .i64 t.u, .int .i64 t.e, .slice (some ⟨ab, ao, none⟩) t.es.length c0])] ∧ p = i ∧ i ≤ t.es.length ∧ o = offA t.es (min i K) ∧ q = decide (0 < min i K) ∧ k = t.es.length - i) ?_ ?_
 ·exact ⟨_, _, (St.of_le' (env := [(1, .v _), (2, .p 2 _ 0), (6, .v _), (7, .v _), (8, .v _)]) (mem := [(2, _, [_, _, _])]) ⟨rfl, rfl, rfl, rfl, rfl, trivial⟩ ⟨rfl, trivial⟩), 0, _, _, _, rfl, rfl, Nat.zero_le _, by rw [Nat.zero_min]; rfl, by rw [Nat.zero_min]; rfl, rfl⟩
 ·rintro k st w2 ⟨i, p, o, q, rfl, hp, hi, ho, hq, rfl⟩
  refine Wp.seq ?_
  refine qQ 3 ?_
  refine x_len rfl rfl rfl rfl rfl ?_
  refine p_lss rfl rfl rfl rfl rfl (fun h13 => ?_) (fun h13 => ?_)
  ·refine vOrd_nil ?_
   refine Wp.condT rfl rfl ?_
   refine Wp.skip ?_
   refine Wp.seq ?_
   refine Wp.block ?_
   refine Wp.seq ?_
   have hin1 : i < t.es.length := by omega
   obtain ⟨x, hx⟩ : ∃ x, t.es[i]? = some x := ⟨t.es[i], List.getElem?_eq_getElem hin1⟩
   obtain ⟨kx1, kx2⟩ := hcell _ x hx
   have hbx := hin _ x hx
   refine Wp.old (fun lo => ?_)
   have hpx := hcut.2 i x hx
   unfold pDay at hpx
   refine wQ 3 ?_
   refine sI (sz := 2) (ao + i * 2) ?_
   refine x_ldA [.int .i64 x.1, .int .i64 x.2] rfl rfl rfl rfl rfl rfl (World.block_lt_of_cell? _ _ (cell_later lo kx1)) (fun j u hj => ?_) ?_
   ·match j, hj with
    | 0, hj => cases hj; exact cell_later lo kx1
    | 1, hj => cases hj; exact cell_later lo kx2
   refine sT (rday_any x hbx.1) ?_
   rintro v w8 rfl lw8
   refine sM ?_
   refine p_leq rfl rfl rfl rfl rfl (fun h23 => ?_) (fun h23 => ?_)
   ·have hlt : i < K := by rw [decide_eq_true h23] at hpx; exact of_decide_eq_true hpx.symm
    refine vOrd_nil ?_
    refine Wp.condT rfl rfl ?_
    refine Wp.old (fun lo6 => ?_)
    refine wQ 3 ?_
    refine sI (sz := 2) (ao + i * 2) ?_
    refine s_fieldV (ao + i * 2 + 1) rfl rfl rfl rfl 1 rfl rfl ?_
    refine xC (cell_later lo6 kx2) ?_
    refine sZ 2 ?_
    refine wQ 1 ?_
    refine aP (-9223372036854775808) 9223372036854775807 ?_
    refine sZ 1 ?_
    have hst := off_step (es := t.es) hlt hx
    exact ⟨_, _, by omega, (St.of_le' (env := [(1, .v _), (2, .p 2 _ 0), (6, .v _), (7, .v _), (8, .v _)]) (mem := [(2, _, [_, _, _])]) ⟨rfl, rfl, rfl, rfl, rfl, trivial⟩ ⟨rfl, trivial⟩), i + 1, _, _, _, rfl, by omega, by omega, hst.1.symm, hst.2.symm, rfl⟩
   ·have hge : K ≤ i := by rw [decide_eq_false (by omega)] at hpx; have := of_decide_eq_false hpx.symm; omega
    refine vOrd_nil ?_
    refine Wp.condF rfl rfl ?_
    refine Wp.skip ?_
    refine wQ 1 ?_
    refine aP (-9223372036854775808) 9223372036854775807 ?_
    refine sZ 1 ?_
    exact ⟨_, _, by omega, (St.of_le' (env := [(1, .v _), (2, .p 2 _ 0), (6, .v _), (7, .v _), (8, .v _)]) (mem := [(2, _, [_, _, _])]) ⟨rfl, rfl, rfl, rfl, rfl, trivial⟩ ⟨rfl, trivial⟩), i + 1, _, _, _, rfl, by omega, by omega, by rw [ho, Nat.min_eq_right (by omega), Nat.min_eq_right (by omega)], by rw [hq, Nat.min_eq_right (by omega), Nat.min_eq_right (by omega)], rfl⟩
  ·refine vOrd_nil ?_
   refine Wp.condF rfl rfl ?_
   refine Wp.exit ?_
   refine qZ ?_
   refine Wp.ret ⟨.inr rfl, fun lW => ⟨_, ⟨_, _, res_tmp (P := Tryz.prog) rfl rfl, res_tmp (P := Tryz.prog) rfl rfl, rfl⟩, _, rfl, ?_, lW⟩⟩
   clear lW
   have hK := hcut.1
   rw [ho, hq, Nat.min_eq_right (by omega)]
theorem rchange_any (t : Tb) (hb : canBe t = true) {a : Option Addr} {c0 : Nat} {w : World} (hv : EntAt w (.slice a t.es.length c0) t.es) {day : Int} {K : Nat} (hcut : Cut (pDay day) t.es K) : Calls Tryz.prog 22 #[tbV t (.slice a t.es.length c0), .int .i64 day] w fun e w' => ∃ r, e = .returned r ∧ r = .int .i64 (moreA t.es K day) ∧ Below w.heap.size w w' := by
 have hn := can_len hb
 have hpos := (can_num hb).2.2
 have hin := fun j e => can_in hb (j := j) (e := e)
 obtain ⟨ab, ao, rfl, hcell⟩ := ent_at hv hpos
 unfold tbV
 refine calls_Wp (args := [_, _]) (n := 36) Tryz.func22 rfl rfl (by simp) ?_
 refine Wp.seq ?_
 refine wR [0, 1] ?_
 refine sE (fun bk1 w1 kb1 lw1 => ?_)
 refine sZ 1 ?_
 refine Wp.seq ?_
 refine qZ ?_
 refine Wp.block ?_
 refine Wp.loop (fun k st W => ∃ (i : Nat) (p : Int), st = St.of [(1, .v (.int .i64 day)), (2, .p 2 bk1 0), (5, .v (.int .i64 p))] [(2, bk1, [.int .i64 t.u, .int .i64 t.e, .slice (some ⟨ab, ao, none⟩) t.es.length c0])] ∧ p = i ∧ 1 ≤ i ∧ i ≤ t.es.length ∧ (∀ j y, 0 < j → j < i → t.es[j]? = some y → ¬ dayE y - 1 = day) ∧ k = t.es.length - i) ?_ ?_
 ·exact ⟨_, _, (St.of_le' (env := [(1, .v _), (2, .p 2 _ 0), (5, .v _)]) (mem := [(2, _, [_, _, _])]) ⟨rfl, rfl, rfl, trivial⟩ ⟨rfl, trivial⟩), 1, _, rfl, rfl, Nat.le_refl _, by omega, fun j y h0 h1 => by omega, rfl⟩
 ·rintro k st w2 ⟨i, p, rfl, hp, hi1, hi, hno, rfl⟩
  refine Wp.seq ?_
  refine qQ 3 ?_
  refine x_len rfl rfl rfl rfl rfl ?_
  refine p_lss rfl rfl rfl rfl rfl (fun h10 => ?_) (fun h10 => ?_)
  ·refine vOrd_nil ?_
   refine Wp.condT rfl rfl ?_
   refine Wp.skip ?_
   refine Wp.seq ?_
   refine Wp.block ?_
   refine Wp.seq ?_
   have hin1 : i < t.es.length := by omega
   obtain ⟨x, hx⟩ : ∃ x, t.es[i]? = some x := ⟨t.es[i], List.getElem?_eq_getElem hin1⟩
   obtain ⟨kx1, kx2⟩ := hcell _ x hx
   have hbx := hin _ x hx
   refine Wp.old (fun lo => ?_)
   refine wQ 3 ?_
   refine sI (sz := 2) (ao + i * 2) ?_
   refine x_ldA [.int .i64 x.1, .int .i64 x.2] rfl rfl rfl rfl rfl rfl (World.block_lt_of_cell? _ _ (cell_later lo kx1)) (fun j u hj => ?_) ?_
   ·match j, hj with
    | 0, hj => cases hj; exact cell_later lo kx1
    | 1, hj => cases hj; exact cell_later lo kx2
   refine sT (rday_any x hbx.1) ?_
   rintro v w8 rfl lw8
   refine aM (-9223372036854775808) 9223372036854775807 ?_
   refine sM ?_
   refine p_eql rfl rfl rfl rfl rfl (fun h21 => ?_) (fun h21 => ?_)
   ·refine vOrd_nil ?_
    refine Wp.condT rfl rfl ?_
    refine Wp.seq ?_
    obtain ⟨i, rfl⟩ : ∃ j, i = j + 1 := ⟨i - 1, by omega⟩
    have hin2 : i < t.es.length := by omega
    obtain ⟨y, hy⟩ : ∃ x, t.es[i]? = some x := ⟨t.es[i], List.getElem?_eq_getElem hin2⟩
    obtain ⟨ky1, ky2⟩ := hcell _ y hy
    have hby := hin _ y hy
    refine Wp.old (fun lo5 => ?_)
    refine wD [0, 1, 2, 3, 4, 5, 6, 7, 8, 9, 10, 11, 12, 13, 14] [8132, 8133, 8131, 8135, 8143, 8159, 831, 895, 0, 0, 0, 0, 0, 0, 0] (fun _ _ _ => True) (fun wd ld => ?_)
    refine sQ 3 ?_
    refine sI (sz := 2) (ao + (i + 1) * 2) ?_
    refine s_fieldV (ao + (i + 1) * 2 + 1) rfl rfl rfl rfl 1 rfl rfl ?_
    refine xC (cell_later (lo5.trans ld) kx2) ?_
    refine sQ 3 ?_
    refine aM (-9223372036854775808) 9223372036854775807 ?_
    refine sI (sz := 2) (ao + i * 2) ?_
    refine s_fieldV (ao + i * 2 + 1) rfl rfl rfl rfl 1 rfl rfl ?_
    refine xC (cell_later (lo5.trans ld) ky2) ?_
    refine aM (-9223372036854775808) 9223372036854775807 ?_
    refine sZ 1 ?_
    refine Wp.ret ⟨.inr rfl, fun lW => ⟨_, res_tmp (P := Tryz.prog) rfl rfl, _, rfl, ?_, lW⟩⟩
    clear lW
    rw [more_hit hb hcut hy hx (by omega)]
   ·refine vOrd_nil ?_
    refine Wp.condF rfl rfl ?_
    refine Wp.skip ?_
    refine wQ 1 ?_
    refine aP (-9223372036854775808) 9223372036854775807 ?_
    refine sZ 1 ?_
    exact ⟨_, _, by omega, (St.of_le' (env := [(1, .v _), (2, .p 2 _ 0), (5, .v _)]) (mem := [(2, _, [_, _, _])]) ⟨rfl, rfl, rfl, trivial⟩ ⟨rfl, trivial⟩), i + 1, _, rfl, by omega, by omega, by omega, fun j y h0 h1 hy => by rcases Nat.lt_or_ge j i with z | z; exact hno j y h0 z hy; rw [show j = i by omega, hx] at hy; cases hy; exact h21, rfl⟩
  ·refine vOrd_nil ?_
   refine Wp.condF rfl rfl ?_
   refine Wp.exit ?_
   refine qZ ?_
   refine Wp.ret ⟨.inr rfl, fun lW => ⟨_, res_tmp (P := Tryz.prog) rfl rfl, _, rfl, ?_, lW⟩⟩
   clear lW
   rw [more_none (fun j y h0 hy => hno j y h0 (by have := (List.getElem?_eq_some_iff.1 hy).1; omega) hy)]
end Go.Proofs.YthihioakjpmnbaaGreat

namespace Go.Proofs.YthihioakjpmnbaaGreat
open Go.RowKit
set_option maxRecDepth 100000

theorem rform_any (d s a : Int) {w : World} : Calls Tryz.prog 102 #[.agg #[.int .i64 d, .int .i64 s, .int .i64 a]] w fun e w' => ∃ r, e = .returned r ∧ r = .bool (isU s a) ∧ Below w.heap.size w w' := by
 refine calls_Wp (args := [_]) (n := 21) Tryz.func102 rfl rfl (by simp) ?_
 refine Wp.seq ?_
 refine wR [0, 1] ?_
 refine sE (fun bk1 w1 kb1 lw1 => ?_)
 refine sZ 1 ?_
 refine qQ 2 ?_
 refine p_geq rfl rfl rfl rfl rfl (fun h5 => ?_) (fun h5 => ?_)
 ·refine sQ 3 ?_
  refine p_leq rfl rfl rfl rfl rfl (fun h9 => ?_) (fun h9 => ?_)
  ·refine sQ 4 ?_
   refine p_geq rfl rfl rfl rfl rfl (fun h14 => ?_) (fun h14 => ?_)
   ·refine sQ 4 ?_
    refine p_lss rfl rfl rfl rfl rfl (fun h19 => ?_) (fun h19 => ?_)
    ·refine sZ 2 ?_
     refine Wp.ret ⟨.inr rfl, fun lW => ⟨_, res_tmp (P := Tryz.prog) rfl rfl, _, rfl, ?_, lW⟩⟩
     clear lW
     rw [isU_iff.2 (by omega)]
    ·refine sZ 2 ?_
     refine Wp.ret ⟨.inr rfl, fun lW => ⟨_, res_tmp (P := Tryz.prog) rfl rfl, _, rfl, ?_, lW⟩⟩
     clear lW
     rw [isU_no.2 (by omega)]
   ·refine sZ 7 ?_
    refine Wp.ret ⟨.inr rfl, fun lW => ⟨_, res_tmp (P := Tryz.prog) rfl rfl, _, rfl, ?_, lW⟩⟩
    clear lW
    rw [isU_no.2 (by omega)]
  ·refine sZ 12 ?_
   refine Wp.ret ⟨.inr rfl, fun lW => ⟨_, res_tmp (P := Tryz.prog) rfl rfl, _, rfl, ?_, lW⟩⟩
   clear lW
   rw [isU_no.2 (by omega)]
 ·refine sZ 16 ?_
  refine Wp.ret ⟨.inr rfl, fun lW => ⟨_, res_tmp (P := Tryz.prog) rfl rfl, _, rfl, ?_, lW⟩⟩
  clear lW
  rw [isU_no.2 (by omega)]
theorem rwhy_any (t : Tb) (hb : canBe t = true) {a0 : Option Addr} {c0 : Nat} {w : World} (hv : EntAt w (.slice a0 t.es.length c0) t.es) {d s a : Int} {K : Nat} (hcut : Cut (pDay d) t.es K) : Calls Tryz.prog 68 #[tbV t (.slice a0 t.es.length c0), .agg #[.int .i64 d, .int .i64 s, .int .i64 a]] w fun e w' => ∃ r, e = .returned r ∧ r = .int .i64 (whyE t.es K d s a) ∧ Below w.heap.size w w' := by
 have hmi := more_one hb K d
 rcases Nat.eq_zero_or_pos K with hK | hK
 ·refine calls_Wp (args := [_, _]) (n := 31) Tryz.func68 rfl rfl (by simp) ?_
  refine Wp.seq ?_
  refine wR [0, 1, 2] ?_
  refine sE (fun bk1 w1 kb1 lw1 => ?_)
  refine sE (fun bk2 w2 kb2 lw2 => ?_)
  refine sZ 1 ?_
  refine Wp.seq ?_
  refine Wp.seq ?_
  refine Wp.old (fun lo => ?_)
  have tb := hv.later lo
  clear lo
  refine wQ 1 ?_
  refine sT (rform_any d s a) ?_
  rintro v w3 rfl lw3
  replace tb := tb.later lw3
  rcases Bool.eq_false_or_eq_true (isU s a) with h8 | h8
  ·rw [h8]
   refine sZ 1 ?_
   refine Wp.condF rfl rfl ?_
   refine Wp.skip ?_
   refine Wp.seq ?_
   refine Wp.seq ?_
   refine Wp.old (fun lo => ?_)
   have tb := hv.later lo
   clear lo
   refine wQ 2 ?_
   refine sT (din_any d _) ?_
   rintro v w4 rfl lw4
   replace tb := tb.later lw4
   rcases Bool.eq_false_or_eq_true (inB d) with h12 | h12
   ·rw [h12]
    refine sZ 1 ?_
    refine Wp.condF rfl rfl ?_
    refine Wp.skip ?_
    refine Wp.seq ?_
    refine Wp.seq ?_
    refine Wp.old (fun lo => ?_)
    have tb := hv.later lo
    clear lo
    refine wQ 3 ?_
    refine sT (roffset_any t hb tb hcut) ?_
    rintro v w5 rfl lw5
    replace tb := tb.later lw5
    rw [show decide (0 < K) = false from decide_eq_false (by omega)]
    refine sZ 5 ?_
    refine qZ ?_
    refine Wp.condT rfl rfl ?_
    refine qZ ?_
    refine Wp.ret ⟨.inr rfl, fun lW => ⟨_, res_tmp (P := Tryz.prog) rfl rfl, _, rfl, ?_, lW⟩⟩
    clear lW
    rw [why_early h8 h12 hK]
   ·rw [h12]
    refine sZ 1 ?_
    refine Wp.condT rfl rfl ?_
    refine qZ ?_
    refine Wp.ret ⟨.inr rfl, fun lW => ⟨_, res_tmp (P := Tryz.prog) rfl rfl, _, rfl, ?_, lW⟩⟩
    clear lW
    rw [why_far h8 h12]
  ·rw [h8]
   refine sZ 1 ?_
   refine Wp.condT rfl rfl ?_
   refine qZ ?_
   refine Wp.ret ⟨.inr rfl, fun lW => ⟨_, res_tmp (P := Tryz.prog) rfl rfl, _, rfl, ?_, lW⟩⟩
   clear lW
   rw [why_bad h8]
 ·refine calls_Wp (args := [_, _]) (n := 31) Tryz.func68 rfl rfl (by simp) ?_
  refine Wp.seq ?_
  refine wR [0, 1, 2] ?_
  refine sE (fun bk1 w1 kb1 lw1 => ?_)
  refine sE (fun bk2 w2 kb2 lw2 => ?_)
  refine sZ 1 ?_
  refine Wp.seq ?_
  refine Wp.seq ?_
  refine Wp.old (fun lo => ?_)
  have tb := hv.later lo
  clear lo
  refine wQ 1 ?_
  refine sT (rform_any d s a) ?_
  rintro v w3 rfl lw3
  replace tb := tb.later lw3
  rcases Bool.eq_false_or_eq_true (isU s a) with h8 | h8
  ·rw [h8]
   refine sZ 1 ?_
   refine Wp.condF rfl rfl ?_
   refine Wp.skip ?_
   refine Wp.seq ?_
   refine Wp.seq ?_
   refine Wp.old (fun lo => ?_)
   have tb := hv.later lo
   clear lo
   refine wQ 2 ?_
   refine sT (din_any d _) ?_
   rintro v w4 rfl lw4
   replace tb := tb.later lw4
   rcases Bool.eq_false_or_eq_true (inB d) with h12 | h12
   ·rw [h12]
    refine sZ 1 ?_
    refine Wp.condF rfl rfl ?_
    refine Wp.skip ?_
    refine Wp.seq ?_
    refine Wp.seq ?_
    refine Wp.old (fun lo => ?_)
    have tb := hv.later lo
    clear lo
    refine wQ 3 ?_
    refine sT (roffset_any t hb tb hcut) ?_
    rintro v w5 rfl lw5
    replace tb := tb.later lw5
    rw [show decide (0 < K) = true from decide_eq_true hK]
    refine sZ 5 ?_
    refine qZ ?_
    refine Wp.condF rfl rfl ?_
    refine Wp.skip ?_
    refine Wp.seq ?_
    refine Wp.seq ?_
    refine Wp.old (fun lo => ?_)
    have tb := hv.later lo
    clear lo
    refine wD [0, 1, 2, 3, 4, 5, 6, 7] [124, 125, 27, 0, 0, 0, 0, 0] (fun | 5 => fun v _ => v = .int .i64 (moreA t.es K d) | _ => fun _ _ => True) (fun wd ld => ?_)
    replace tb := tb.later ld
    clear ld
    refine sQ 5 ?_
    refine sD (fun wc lc => rchange_any t hb (tb.later lc) hcut) ?_
    rintro v w6 u6 rfl lw6 mw6
    replace tb := (tb.later lw6).later mw6
    refine aP (-9223372036854775808) 9223372036854775807 ?_
    refine p_geq rfl rfl rfl rfl rfl (fun h30 => ?_) (fun h30 => ?_)
    ·refine vOrd_nil ?_
     refine Wp.condT rfl rfl ?_
     refine qZ ?_
     refine Wp.ret ⟨.inr rfl, fun lW => ⟨_, res_tmp (P := Tryz.prog) rfl rfl, _, rfl, ?_, lW⟩⟩
     clear lW
     rw [why_none h8 h12 hK (by omega)]
    ·refine vOrd_nil ?_
     refine Wp.condF rfl rfl ?_
     refine Wp.skip ?_
     refine qZ ?_
     refine Wp.ret ⟨.inr rfl, fun lW => ⟨_, res_tmp (P := Tryz.prog) rfl rfl, _, rfl, ?_, lW⟩⟩
     clear lW
     rw [why_ok h8 h12 hK (by omega)]
   ·rw [h12]
    refine sZ 1 ?_
    refine Wp.condT rfl rfl ?_
    refine qZ ?_
    refine Wp.ret ⟨.inr rfl, fun lW => ⟨_, res_tmp (P := Tryz.prog) rfl rfl, _, rfl, ?_, lW⟩⟩
    clear lW
    rw [why_far h8 h12]
  ·rw [h8]
   refine sZ 1 ?_
   refine Wp.condT rfl rfl ?_
   refine qZ ?_
   refine Wp.ret ⟨.inr rfl, fun lW => ⟨_, res_tmp (P := Tryz.prog) rfl rfl, _, rfl, ?_, lW⟩⟩
   clear lW
   rw [why_bad h8]
theorem rtai_any (t : Tb) (hb : canBe t = true) {a0 : Option Addr} {c0 : Nat} {w : World} (hv : EntAt w (.slice a0 t.es.length c0) t.es) {d s a : Int} (hd : I64 d) (hs : 0 ≤ s ∧ s ≤ 86400) (ha : I64 a) {K : Nat} (hcut : Cut (pDay d) t.es K) : Calls Tryz.prog 72 #[tbV t (.slice a0 t.es.length c0), .agg #[.int .i64 d, .int .i64 s, .int .i64 a]] w fun e w' => ∃ r, e = .returned r ∧ IsBig 17 (cnt d (s + offA t.es K) a) r w' ∧ Below w.heap.size w w' := by
 have hA := can_A hb K
 refine calls_Wp (args := [_, _]) (n := 21) Tryz.func72 rfl rfl (by simp) ?_
 refine Wp.seq ?_
 refine wR [0, 1, 2] ?_
 refine sE (fun bk1 w1 kb1 lw1 => ?_)
 refine sE (fun bk2 w2 kb2 lw2 => ?_)
 refine sO (fun bk3 w3 kb3 lw3 => ?_)
 refine vOrd_nil ?_
 refine Wp.seq ?_
 refine Wp.old (fun lo => ?_)
 have tb := hv.later lo
 clear lo
 refine wQ 3 ?_
 refine sT (roffset_any t hb tb hcut) ?_
 rintro v w4 rfl lw4
 replace tb := tb.later lw4
 refine sZ 5 ?_
 refine qQ 3 ?_
 refine aP (-9223372036854775808) 9223372036854775807 ?_
 refine sF 1 ?_
 refine sS (fun w5 sw5 vw5 => ?_)
 refine vOrd_nil ?_
 refine Wp.seq ?_
 refine Wp.old (fun lo => ?_)
 have tb := hv.later lo
 clear lo
 refine wQ 1 ?_
 refine sT (rjoin_any (d := d) (s := s + offA t.es K) (a := a) hd ⟨by omega, by omega⟩ ha _) ?_
 rintro v w6 h9 lw6
 replace tb := tb.later lw6
 obtain ⟨xa, xl, xc, rfl, -⟩ := id h9
 refine sS (fun w7 sw7 vw7 => ?_)
 refine vOrd_nil ?_
 refine Wp.ret ⟨.inr rfl, fun lW => ⟨_, res_cell rfl rfl rfl rfl, _, rfl, ?_, lW⟩⟩
 clear lW
 exact h9.kp
end Go.Proofs.YthihioakjpmnbaaGreat
