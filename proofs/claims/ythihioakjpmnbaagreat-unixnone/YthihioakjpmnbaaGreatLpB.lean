/-
 Leap seconds: copied, the functions that tell whether an era has begun, more, sort.Search, and what it asks. No conditions beyond those at each.
-/
import Derived.Test.YthihioakjpmnbaaGreatLpA
namespace Go.Proofs.YthihioakjpmnbaaGreat
open Go.RowKit
set_option maxRecDepth 100000

theorem ent_src {w : World} {a : Option Addr} {c0 : Nat} {es : List Ent} (hv : EntAt w (.slice a es.length c0) es) (h0 : 0 < es.length) : ∃ ab ao, a = some ⟨ab, ao, none⟩ ∧ ∀ j y, (entC es)[j]? = some y → w.cell? ⟨ab, ao + j, none⟩ = some y := by
 obtain ⟨a', c', e, _, hc⟩ := hv
 cases e
 obtain ⟨_, _, ab, ao, rfl, _, _⟩ := hc 0 es[0] (List.getElem?_eq_getElem h0)
 refine ⟨ab, ao, rfl, fun j y hj => ?_⟩
 have hl := (List.getElem?_eq_some_iff.1 hj).1
 rw [entC_len] at hl
 obtain ⟨x, hx⟩ : ∃ x, es[j / 2]? = some x := ⟨es[j / 2]'(by omega), List.getElem?_eq_getElem _⟩
 obtain ⟨_, _, b, o, e, k1, k2⟩ := hc _ x hx
 cases e
 have hh := entC_at es _ x hx
 rcases (by omega : j = j / 2 * 2 ∨ j = j / 2 * 2 + 1) with q | q
 ·rw [q] at hj ⊢
  rw [hh.1] at hj
  cases hj
  exact k1
 ·rw [q, hh.2] at hj
  cases hj
  rw [q]
  exact k2
theorem entC_one (es : List Ent) : ∀ u ∈ entC es, u.oneCell' = true := by
 intro u hu
 unfold entC at hu
 rw [List.mem_flatten] at hu
 obtain ⟨l, hl, hu⟩ := hu
 rw [List.mem_map] at hl
 obtain ⟨x, _, rfl⟩ := hl
 simp only [List.mem_cons, List.not_mem_nil, or_false] at hu
 rcases hu with rfl | rfl <;> rfl
theorem made_row {w : World} {c : Nat} {e : TypeId} {z : Array Value} {k : Nat} (h : RowIs w c e (madeCells z k).toList) : ∃ cs, Var w c cs ∧ cs.length = k := ⟨_, h.var, by simp [madeCells]⟩
theorem copied_any (t : Tb) {a : Option Addr} {c0 : Nat} {w : World} (hv : EntAt w (.slice a t.es.length c0) t.es) (h0 : 0 < t.es.length) (hn : t.es.length ≤ 64) : Calls Tryz.prog 57 #[tbV t (.slice a t.es.length c0)] w fun e w' => ∃ r, e = .returned r ∧ (∃ c, r = tbV t (.slice (some ⟨c, 0, none⟩) t.es.length t.es.length) ∧ w.heap.size ≤ c ∧ Var w' c (entC t.es)) ∧ Below w.heap.size w w' := by
 obtain ⟨tu, te, es⟩ := t
 simp only at hv h0 hn
 unfold tbV
 obtain ⟨ab, ao, rfl, hsrc⟩ := ent_src hv h0
 refine calls_Wp (args := [_]) (n := 15) Tryz.func57 rfl rfl (by simp) ?_
 refine Wp.seq ?_
 refine wR [0, 1] ?_
 refine sE (fun bk1 w1 kb1 lw1 => ?_)
 try replace vm := vm.later lw1
 refine sO (fun bk2 w2 kb2 lw2 => ?_)
 try replace vm := vm.later lw2
 refine vOrd_nil ?_
 refine Wp.seq ?_
 refine Wp.var (h := 1) rfl (fun v1 => ?_)
 have q1 := v1.lt
 refine Wp.var (h := 2) rfl (fun v2 => ?_)
 have q2 := v2.lt
 refine Wp.old (fun lo => ?_)
 have hsz0 := lo.size
 refine wQ 2 ?_
 refine x_len rfl rfl rfl rfl rfl ?_
 refine s_make (k1 := .i64) (k2 := .i64) (n := es.length) (e := 56) rfl rfl rfl rfl rfl rfl rfl rfl (by show (16 : Int) * _ ≤ _; omega) (by omega) ?_
 intro cm wm hcm lm hrow
 obtain ⟨z, vm, hzl⟩ := made_row hrow
 replace hzl : z.length = es.length * 2 := hzl
 clear hrow
 refine sZ 1 ?_
 refine Wp.seq ?_
 refine Wp.oldH (fun lo2 => ?_)
 refine wQ 3 ?_
 refine x_copy2 (e := 56) (n := es.length) (cs := z) (news := entC es) rfl rfl rfl rfl rfl rfl rfl vm hzl (entC_len es) (fun j y hj => ?_) (entC_one es) (by omega) (by repeat (first | exact AllMem.args | exact AllMem.of (by simp only [AllL, and_true]; omega) | refine AllMem.put ?_ | refine AllMem.new ?_ (by omega) | refine AllMem.set ?_ (by omega))) ?_
 ·have hc := hsrc j y hj
  exact (World.cell?_of_block ((later_of_grown lo2).block ab (World.block_lt_of_cell? w _ hc))).trans hc
 clear vm
 intro wq vm gq
 refine vOrd_nil ?_
 refine Wp.seq ?_
 refine Wp.var (h := 1) rfl (fun v1 => ?_)
 have q1 := v1.lt
 refine Wp.var (h := 2) rfl (fun v2 => ?_)
 have q2 := v2.lt
 refine wQ 2 ?_
 refine sS (fun w13 sw13 vw13 => ?_)
 try replace vm := vm.sto sw13 (by omega)
 refine vOrd_nil ?_
 refine qQ 1 ?_
 refine sS (fun w14 sw14 vw14 => ?_)
 try replace vm := vm.sto sw14 (by omega)
 refine vOrd_nil ?_
 refine Wp.ret ⟨.inr rfl, fun lW => ⟨_, res_cell rfl rfl rfl rfl, _, rfl, ?_, lW⟩⟩
 clear lW
 exact ⟨cm, rfl, by omega, vm⟩
theorem day1_any (d s o u c : Int) {k : Nat} {x : Int} {w : World} (hv : Var w k [.int .i64 x]) : Calls Tryz.prog 139 #[.agg (eraV d s o u c).toArray, .pointer (some ⟨k, 0, none⟩)] w fun e w' => ∃ r, e = .returned r ∧ r = .bool (decide (d ≤ x)) ∧ Below w.heap.size w w' := by
 unfold eraV
 refine calls_Wp (args := [_, _]) (n := 8) Tryz.func139 rfl rfl (by simp) ?_
 refine Wp.seq ?_
 refine wR [0, 1] ?_
 refine sE (fun bk1 w1 kb1 lw1 => ?_)
 refine sZ 1 ?_
 refine Wp.seq ?_
 refine Wp.old (fun lo => ?_)
 refine wQ 2 ?_
 refine s_ldU rfl rfl rfl rfl (hv.later lo) rfl ?_
 refine p_leq rfl rfl rfl rfl rfl (fun h7 => ?_) (fun h7 => ?_)
 ·refine sZ 1 ?_
  refine Wp.ret ⟨.inr rfl, fun lW => ⟨_, res_tmp (P := Tryz.prog) rfl rfl, _, rfl, ?_, lW⟩⟩
  clear lW
  rw [decide_eq_true (show d ≤ x by omega)]
 ·refine sZ 1 ?_
  refine Wp.ret ⟨.inr rfl, fun lW => ⟨_, res_tmp (P := Tryz.prog) rfl rfl, _, rfl, ?_, lW⟩⟩
  clear lW
  rw [decide_eq_false (show ¬ d ≤ x by omega)]
theorem more_any (d s o u c day : Int) (hu : -4611686018427387904 ≤ u ∧ u ≤ 4611686018427387904) {w : World} : Calls Tryz.prog 128 #[.agg (eraV d s o u c).toArray, .int .i64 day] w fun e w' => ∃ r, e = .returned r ∧ r = .int .i64 (if day = u - 1 then c else 0) ∧ Below w.heap.size w w' := by
 unfold eraV
 refine calls_Wp (args := [_, _]) (n := 12) Tryz.func128 rfl rfl (by simp) ?_
 refine Wp.seq ?_
 refine wR [0, 1] ?_
 refine sE (fun bk1 w1 kb1 lw1 => ?_)
 refine sZ 1 ?_
 refine Wp.seq ?_
 refine qQ 3 ?_
 refine aM (-9223372036854775808) 9223372036854775807 ?_
 refine p_eql rfl rfl rfl rfl rfl (fun h9 => ?_) (fun h9 => ?_)
 ·refine vOrd_nil ?_
  refine Wp.condT rfl rfl ?_
  refine qZ ?_
  refine Wp.ret ⟨.inr rfl, fun lW => ⟨_, res_tmp (P := Tryz.prog) rfl rfl, _, rfl, ?_, lW⟩⟩
  clear lW
  rw [if_pos (by omega)]
 ·refine vOrd_nil ?_
  refine Wp.condF rfl rfl ?_
  refine Wp.skip ?_
  refine qZ ?_
  refine Wp.ret ⟨.inr rfl, fun lW => ⟨_, res_tmp (P := Tryz.prog) rfl rfl, _, rfl, ?_, lW⟩⟩
  clear lW
  rw [if_neg (by omega)]
theorem search_any {n k : Nat} (hk : k ≤ n) (hn : n ≤ 1000000) {f : FuncId} {caps : List Value} (hf : goFn Tryz.prog f = true) {w : World} (hc : ∀ (W : World) (h : Nat), Later w W → h < n → Calls Tryz.prog f (.int .i64 (h : Int) :: caps).toArray W fun e w' => ∃ r, e = .returned r ∧ r = .bool (decide (k ≤ h)) ∧ Below W.heap.size W w') :
  Calls Tryz.prog 148 #[.int .i64 (n : Int), .func (.func f) #[] caps.toArray] w fun e w' => ∃ r, e = .returned r ∧ r = .int .i64 (k : Int) ∧ Below w.heap.size w w' := by
 refine calls_Wp (args := [_, _]) (n := 26) Tryz.func148 rfl rfl (by simp) ?_
 refine qZ ?_
 refine qZ ?_
 refine Wp.seq ?_
 refine Wp.block ?_
 refine Wp.loop (fun m st W => ∃ (i j : Nat) (pi pj : Int), st = St.of [(1, .v (.func (.func f) #[] caps.toArray)), (5, .v (.int .i64 pi)), (6, .v (.int .i64 pj))] [] ∧ pi = i ∧ pj = j ∧ i ≤ k ∧ k ≤ j ∧ j ≤ n ∧ m = j - i) ?_ ?_
 ·exact ⟨_, _, (St.of_le' (env := [(1, .v _), (5, .v _), (6, .v _)]) (mem := []) ⟨rfl, rfl, rfl, trivial⟩ trivial), 0, n, _, _, rfl, rfl, rfl, Nat.zero_le _, hk, Nat.le_refl _, rfl⟩
 ·rintro k st w1 ⟨i, j, pi, pj, rfl, hpi, hpj, hik, hkj, hjn, rfl⟩
  refine Wp.seq ?_
  refine qQ 2 ?_
  refine p_lss rfl rfl rfl rfl rfl (fun h11 => ?_) (fun h11 => ?_)
  ·refine vOrd_nil ?_
   refine Wp.condT rfl rfl ?_
   refine Wp.skip ?_
   refine Wp.block ?_
   refine qQ 2 ?_
   refine aP (-9223372036854775808) 9223372036854775807 ?_
   refine a_conv (0) 18446744073709551615 (by decide) rfl rfl rfl rfl rfl rfl (by omega) (by omega) ?_
   refine a_shr (2) rfl rfl rfl rfl rfl (by omega) (by decide) ?_
   refine a_conv (-9223372036854775808) 9223372036854775807 (by decide) rfl rfl rfl rfl rfl rfl (by omega) (by omega) ?_
   refine sZ 1 ?_
   refine Wp.seq ?_
   obtain ⟨h, hh⟩ : ∃ h : Nat, (pi + pj) / 2 = (h : Int) := ⟨(i + j) / 2, by omega⟩
   rw [hh]
   refine Wp.old (fun lo => ?_)
   refine wQ 2 ?_
   refine s_callF rfl rfl rfl hf rfl rfl ((show _ ∧ _ from ⟨lo, hc _ h lo (by omega)⟩).2) ?_
   rintro v w2 rfl lw2
   rcases Bool.eq_false_or_eq_true (decide (k ≤ h)) with h20 | h20
   ·rw [h20]
    have hkh : k ≤ h := of_decide_eq_true h20
    refine sZ 1 ?_
    refine Wp.condF rfl rfl ?_
    refine wZ ?_
    exact ⟨_, _, by omega, (St.of_le' (env := [(1, .v _), (5, .v _), (6, .v _)]) (mem := []) ⟨rfl, rfl, rfl, trivial⟩ trivial), i, h, _, _, rfl, hpi, by omega, hik, by omega, by omega, rfl⟩
   ·rw [h20]
    have hkh : ¬ k ≤ h := of_decide_eq_false h20
    refine sZ 1 ?_
    refine Wp.condT rfl rfl ?_
    refine wQ 1 ?_
    refine aP (-9223372036854775808) 9223372036854775807 ?_
    refine sZ 1 ?_
    exact ⟨_, _, by omega, (St.of_le' (env := [(1, .v _), (5, .v _), (6, .v _)]) (mem := []) ⟨rfl, rfl, rfl, trivial⟩ trivial), h + 1, j, _, _, rfl, by omega, hpj, by omega, hkj, hjn, rfl⟩
  ·refine vOrd_nil ?_
   refine Wp.condF rfl rfl ?_
   refine Wp.exit ?_
   refine qZ ?_
   refine Wp.ret ⟨.inr rfl, fun lW => ⟨_, res_tmp (P := Tryz.prog) rfl rfl, _, rfl, ?_, lW⟩⟩
   clear lW
   rw [show pi = (k : Int) by omega]
theorem cell_later {w w' : World} {a : Addr} {v : Value} (l : Later w w') (h : w.cell? a = some v) : w'.cell? a = some v := (World.cell?_of_block (l.block a.block (World.block_lt_of_cell? _ _ h))).trans h
theorem pick_any {es : List Ent} {p : Ent → Bool} {k : Nat} (hcut : Cut p es k) {f : FuncId} {q : Nat} {r cr b3 b6 h : Nat} (hf : goFn Tryz.prog f = true) {w : World} (h3 : Var w b3 [.func (.func f) #[] #[.pointer (some ⟨q, 0, none⟩)]]) (h6 : Var w b6 [.slice (some ⟨r, 0, none⟩) es.length cr])
  (hcell : ∀ j e, es[j]? = some e → w.cell? ⟨r, j * 5, none⟩ = some (.int .i64 (dayE e)) ∧ w.cell? ⟨r, j * 5 + 1, none⟩ = some (.int .i64 (startE e)) ∧ w.cell? ⟨r, j * 5 + 2, none⟩ = some (.int .i64 e.2) ∧ w.cell? ⟨r, j * 5 + 3, none⟩ = some (.int .i64 (untilE es j)) ∧ w.cell? ⟨r, j * 5 + 4, none⟩ = some (.int .i64 (chgE es j)))
  (hc : ∀ (W : World) (j : Nat) (e : Ent), Later w W → es[j]? = some e → Calls Tryz.prog f #[.agg (eraV (dayE e) (startE e) e.2 (untilE es j) (chgE es j)).toArray, .pointer (some ⟨q, 0, none⟩)] W fun e' w' => ∃ r, e' = .returned r ∧ r = .bool (p e) ∧ Below W.heap.size W w') (hh : h < es.length) :
  Calls Tryz.prog 149 #[.int .i64 (h : Int), .pointer (some ⟨b3, 0, none⟩), .pointer (some ⟨b6, 0, none⟩)] w fun e w' => ∃ r, e = .returned r ∧ r = .bool (decide (k ≤ h)) ∧ Below w.heap.size w w' := by
 obtain ⟨x, hx⟩ : ∃ x, es[h]? = some x := ⟨es[h], List.getElem?_eq_getElem hh⟩
 have hpx := hcut.2 h x hx
 obtain ⟨c0, c1, c2, c3, c4⟩ := hcell h x hx
 refine calls_Wp (args := [_, _, _]) (n := 12) Tryz.func149 rfl rfl (by simp) ?_
 refine qZ ?_
 refine Wp.seq ?_
 refine Wp.old (fun lo => ?_)
 refine Wp.drawnX (by kernel_rfl) (by kernel_rfl) (by kernel_rfl) [2] 7 #[false, false, true, false, false, false, false, false] rfl (by kernel_rfl) (by kernel_rfl) (fun wd ld => ?_)
 refine sZ 1 ?_
 refine vTree_two (i := 0) (k := 1) (L1 := #[true, false, true, false, false, false, false, false]) (L2 := #[false, true, true, false, false, false, false, false]) (by kernel_rfl) (by kernel_rfl) (by kernel_rfl) ?_ ?_
 ·refine s_ldU rfl rfl rfl rfl (h3.later (lo.trans ld)) rfl ?_
  refine vOrd_nil ?_
  refine vT 1 ?_
  refine s_ldU rfl rfl rfl rfl (h6.later (lo.trans ld)) rfl ?_
  refine vOrd_nil ?_
  refine vT 3 ?_
  refine sI (sz := 5) (h * 5) ?_
  refine vOrd_nil ?_
  refine vT 4 ?_
  refine x_ldA (eraV (dayE x) (startE x) x.2 (untilE es h) (chgE es h)) rfl rfl rfl rfl rfl rfl (Nat.lt_of_lt_of_le (World.block_lt_of_cell? _ _ c0) (lo.trans ld).size) (fun j u hj => ?_) ?_
  ·match j, hj with
   | 0, hj => cases hj; exact (cell_later (lo.trans ld) c0)
   | 1, hj => cases hj; exact (cell_later (lo.trans ld) c1)
   | 2, hj => cases hj; exact (cell_later (lo.trans ld) c2)
   | 3, hj => cases hj; exact (cell_later (lo.trans ld) c3)
   | 4, hj => cases hj; exact (cell_later (lo.trans ld) c4)
  refine vOrd_nil ?_
  refine vT 5 ?_
  refine s_callF (caps := [.pointer (some ⟨q, 0, none⟩)]) rfl rfl rfl hf rfl rfl (hc _ h x (lo.trans ld) hx) ?_
  rintro v wz rfl lz
  refine vOrd_nil ?_
  refine vT 6 ?_
  refine sZ 1 ?_
  refine vT 7 ?_
  refine sZ 1 ?_
  refine vTree_end (by kernel_rfl) ?_
  refine Wp.ret ⟨.inr rfl, fun lW => ⟨_, res_tmp (P := Tryz.prog) rfl rfl, _, rfl, ?_, lW⟩⟩
  clear lW
  rw [hpx]
  congr 1
  by_cases hkh : k ≤ h
  ·rw [decide_eq_true hkh, decide_eq_false (by omega)]; rfl
  ·rw [decide_eq_false hkh, decide_eq_true (by omega)]; rfl
 ·refine s_ldU rfl rfl rfl rfl (h6.later (lo.trans ld)) rfl ?_
  refine vOrd_nil ?_
  refine vTree_two (i := 0) (k := 3) (L1 := #[true, true, true, false, false, false, false, false]) (L2 := #[false, true, true, true, false, false, false, false]) (by kernel_rfl) (by kernel_rfl) (by kernel_rfl) ?_ ?_
  ·refine s_ldU rfl rfl rfl rfl (h3.later (lo.trans ld)) rfl ?_
   refine vOrd_nil ?_
   refine vT 3 ?_
   refine sI (sz := 5) (h * 5) ?_
   refine vOrd_nil ?_
   refine vT 4 ?_
   refine x_ldA (eraV (dayE x) (startE x) x.2 (untilE es h) (chgE es h)) rfl rfl rfl rfl rfl rfl (Nat.lt_of_lt_of_le (World.block_lt_of_cell? _ _ c0) (lo.trans ld).size) (fun j u hj => ?_) ?_
   ·match j, hj with
    | 0, hj => cases hj; exact (cell_later (lo.trans ld) c0)
    | 1, hj => cases hj; exact (cell_later (lo.trans ld) c1)
    | 2, hj => cases hj; exact (cell_later (lo.trans ld) c2)
    | 3, hj => cases hj; exact (cell_later (lo.trans ld) c3)
    | 4, hj => cases hj; exact (cell_later (lo.trans ld) c4)
   refine vOrd_nil ?_
   refine vT 5 ?_
   refine s_callF (caps := [.pointer (some ⟨q, 0, none⟩)]) rfl rfl rfl hf rfl rfl (hc _ h x (lo.trans ld) hx) ?_
   rintro v wz rfl lz
   refine vOrd_nil ?_
   refine vT 6 ?_
   refine sZ 1 ?_
   refine vT 7 ?_
   refine sZ 1 ?_
   refine vTree_end (by kernel_rfl) ?_
   refine Wp.ret ⟨.inr rfl, fun lW => ⟨_, res_tmp (P := Tryz.prog) rfl rfl, _, rfl, ?_, lW⟩⟩
   clear lW
   rw [hpx]
   congr 1
   by_cases hkh : k ≤ h
   ·rw [decide_eq_true hkh, decide_eq_false (by omega)]; rfl
   ·rw [decide_eq_false hkh, decide_eq_true (by omega)]; rfl
  ·refine sI (sz := 5) (h * 5) ?_
   refine vOrd_nil ?_
   refine vTree_two (i := 0) (k := 4) (L1 := #[true, true, true, true, false, false, false, false]) (L2 := #[false, true, true, true, true, false, false, false]) (by kernel_rfl) (by kernel_rfl) (by kernel_rfl) ?_ ?_
   ·refine s_ldU rfl rfl rfl rfl (h3.later (lo.trans ld)) rfl ?_
    refine vOrd_nil ?_
    refine vT 4 ?_
    refine x_ldA (eraV (dayE x) (startE x) x.2 (untilE es h) (chgE es h)) rfl rfl rfl rfl rfl rfl (Nat.lt_of_lt_of_le (World.block_lt_of_cell? _ _ c0) (lo.trans ld).size) (fun j u hj => ?_) ?_
    ·match j, hj with
     | 0, hj => cases hj; exact (cell_later (lo.trans ld) c0)
     | 1, hj => cases hj; exact (cell_later (lo.trans ld) c1)
     | 2, hj => cases hj; exact (cell_later (lo.trans ld) c2)
     | 3, hj => cases hj; exact (cell_later (lo.trans ld) c3)
     | 4, hj => cases hj; exact (cell_later (lo.trans ld) c4)
    refine vOrd_nil ?_
    refine vT 5 ?_
    refine s_callF (caps := [.pointer (some ⟨q, 0, none⟩)]) rfl rfl rfl hf rfl rfl (hc _ h x (lo.trans ld) hx) ?_
    rintro v wz rfl lz
    refine vOrd_nil ?_
    refine vT 6 ?_
    refine sZ 1 ?_
    refine vT 7 ?_
    refine sZ 1 ?_
    refine vTree_end (by kernel_rfl) ?_
    refine Wp.ret ⟨.inr rfl, fun lW => ⟨_, res_tmp (P := Tryz.prog) rfl rfl, _, rfl, ?_, lW⟩⟩
    clear lW
    rw [hpx]
    congr 1
    by_cases hkh : k ≤ h
    ·rw [decide_eq_true hkh, decide_eq_false (by omega)]; rfl
    ·rw [decide_eq_false hkh, decide_eq_true (by omega)]; rfl
   ·refine x_ldA (eraV (dayE x) (startE x) x.2 (untilE es h) (chgE es h)) rfl rfl rfl rfl rfl rfl (Nat.lt_of_lt_of_le (World.block_lt_of_cell? _ _ c0) (lo.trans ld).size) (fun j u hj => ?_) ?_
    ·match j, hj with
     | 0, hj => cases hj; exact (cell_later (lo.trans ld) c0)
     | 1, hj => cases hj; exact (cell_later (lo.trans ld) c1)
     | 2, hj => cases hj; exact (cell_later (lo.trans ld) c2)
     | 3, hj => cases hj; exact (cell_later (lo.trans ld) c3)
     | 4, hj => cases hj; exact (cell_later (lo.trans ld) c4)
    refine vOrd_nil ?_
    refine vT 0 ?_
    refine s_ldU rfl rfl rfl rfl (h3.later (lo.trans ld)) rfl ?_
    refine vOrd_nil ?_
    refine vT 5 ?_
    refine s_callF (caps := [.pointer (some ⟨q, 0, none⟩)]) rfl rfl rfl hf rfl rfl (hc _ h x (lo.trans ld) hx) ?_
    rintro v wz rfl lz
    refine vOrd_nil ?_
    refine vT 6 ?_
    refine sZ 1 ?_
    refine vT 7 ?_
    refine sZ 1 ?_
    refine vTree_end (by kernel_rfl) ?_
    refine Wp.ret ⟨.inr rfl, fun lW => ⟨_, res_tmp (P := Tryz.prog) rfl rfl, _, rfl, ?_, lW⟩⟩
    clear lW
    rw [hpx]
    congr 1
    by_cases hkh : k ≤ h
    ·rw [decide_eq_true hkh, decide_eq_false (by omega)]; rfl
    ·rw [decide_eq_false hkh, decide_eq_true (by omega)]; rfl
end Go.Proofs.YthihioakjpmnbaaGreat
