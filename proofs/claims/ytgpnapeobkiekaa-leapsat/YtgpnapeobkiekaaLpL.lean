/-
  Leap seconds: what the laws of layer 12 share, and the walk of LeapsNone.
-/
import Derived.Test.YtgpnapeobkiekaaLpE
import Derived.Test.YtgpnapeobkiekaaLpR
namespace Go.Proofs.Ytgpnapeobkiekaa
open Go.RowKit
set_option maxRecDepth 100000

theorem Later.past {w w1 w2 : World} {b : Nat} (h : Later w w1) (g : w1.grownBy w2 (some b)) (hb : w.heap.size ≤ b) : Later w w2 :=
  ⟨g.os.trans h.os, g.tape.trans h.tape, g.output.trans h.output, Nat.le_trans h.size g.size, fun k hk => (g.block k (Nat.lt_of_lt_of_le hk h.size) (by simp; omega)).trans (h.block k hk)⟩
theorem Later.sto {w w1 w2 : World} {q : Nat} (h : Later w w1) (s : Stored q w1 w2) (hq : w.heap.size ≤ q) : Later w w2 := h.past (grown_of_stored s) hq
theorem run_eql_boolL (a b : Bool) (w : World) : (binOp .eql 4 (.bool a) (.bool b)).run Try.prog w = .ok (.bool (a == b)) w := by
  cases a <;> cases b <;> simp [go_sem]
theorem cut_dec {p : Ent → Bool} {es : List Ent} {k : Nat} (hk : k ≤ es.length) (h : (List.range es.length).all (fun j => match es[j]? with | some e => p e == decide (j < k) | none => true) = true) : Cut p es k :=
  ⟨hk, fun j e he => by
    have hl := (List.getElem?_eq_some_iff.1 he).1
    have := List.all_eq_true.1 h j (by simpa using hl)
    rw [he] at this
    simpa using this⟩
def tY : Tb := ⟨0, 0, [(2272060800, 10), (2287785600, 11)]⟩
theorem tY_can : canBe tY = true := by decide
theorem tY_1 : Cut (pDay 41498) tY.es 1 := cut_dec (by decide) (by decide)
theorem tY_2 : Cut (pDay 41499) tY.es 2 := cut_dec (by decide) (by decide)
theorem rowY {w : World} {c : Nat} (h : RowIs w c 37 [.int .i64 2272060800, .int .i64 10, .int .i64 2287785600, .int .i64 11]) : EntAt w (.slice (some ⟨c, 0, none⟩) tY.es.length 2) tY.es :=
  ents_own (base := 0) (own_of_row (xs := entC tY.es) h (Nat.zero_le _) rfl (by decide)) (fun j hj => can_all tY_can hj)
theorem in0 : I64 0 := by unfold I64; decide
theorem sum_step {t : Tb} (hb : canBe t = true) {K K2 : Nat} {day : Int} (h1 : Cut (pDay day) t.es K) (h2 : Cut (pDay (day + 1)) t.es K2) (hK : 0 < K) : offA t.es K2 - offA t.es K = moreA t.es K day ∧ -1 ≤ moreA t.es K day ∧ moreA t.es K day ≤ 1 := by
  obtain ⟨j, rfl⟩ : ∃ j, K = j + 1 := ⟨K - 1, by omega⟩
  have hjn : j < t.es.length := by have := h1.1; omega
  obtain ⟨x, hx⟩ : ∃ x, t.es[j]? = some x := ⟨t.es[j], List.getElem?_eq_getElem hjn⟩
  have p1 : ∀ i e, t.es[i]? = some e → (dayE e ≤ day ↔ i < j + 1) := fun i e he => by have := h1.2 i e he; unfold pDay at this; rwa [decide_eq_decide] at this
  have p2 : ∀ i e, t.es[i]? = some e → (dayE e ≤ day + 1 ↔ i < K2) := fun i e he => by have := h2.2 i e he; unfold pDay at this; rwa [decide_eq_decide] at this
  have hjK : j < K2 := (p2 j x hx).1 (by have := (p1 j x hx).2 (by omega); omega)
  cases hy : t.es[j + 1]? with
  | none =>
    have hn : t.es.length ≤ j + 1 := List.getElem?_eq_none_iff.1 hy
    obtain rfl : K2 = j + 1 := by have := h2.1; omega
    have e : moreA t.es (j + 1) day = 0 := by
      simp only [moreA, chgA, chgE, hy]
      split <;> rfl
    rw [e]
    omega
  | some y =>
    have hyl := (List.getElem?_eq_some_iff.1 hy).1
    have hnx := can_next hb hx hy
    have hny : ¬ dayE y ≤ day := fun q => by have := (p1 (j + 1) y hy).1 q; omega
    have ex := (A_at hx).2.2
    by_cases q : dayE y = day + 1
    · have hlt := (p2 (j + 1) y hy).1 (by omega)
      have hge : ¬ j + 2 < K2 := fun z => by
        have hl2 : j + 2 < t.es.length := by have := h2.1; omega
        obtain ⟨u, hu⟩ : ∃ u, t.es[j + 2]? = some u := ⟨t.es[j + 2], List.getElem?_eq_getElem hl2⟩
        have := (p2 (j + 2) u hu).2 z
        have := (can_less hb (Nat.lt_succ_self (j + 1)) hy hu).1
        omega
      obtain rfl : K2 = j + 2 := by omega
      have ey := (A_at hy).2.2
      have e : moreA t.es (j + 1) day = y.2 - x.2 := by
        simp only [moreA, untilA, untilE, chgA, chgE, hy, hx]
        rw [if_pos (by omega)]
      rw [e, ex, ey]
      omega
    · have hge : ¬ j + 1 < K2 := fun z => by have := (p2 (j + 1) y hy).2 z; omega
      obtain rfl : K2 = j + 1 := by omega
      have e : moreA t.es (j + 1) day = 0 := by
        simp only [moreA, untilA, untilE, hy]
        rw [if_neg (by omega)]
      rw [e]
      omega
theorem rtable_yes {t : Tb} (hb : canBe t = true) (hu : I64 t.u) (he : I64 t.e) {v : Value} {w : World} (hv : EntAt w v t.es) : Calls Try.prog 11 #[tbV t v] w fun e w' => ∃ r, e = .returned r ∧ r = .tuple #[.int .i64 0, .bool true] ∧ Below w.heap.size w w' := by
  have h := rtable_any t hu he hv
  rw [can_place hb, hb] at h
  exact h
theorem rtable_no {t : Tb} (hb : canBe t = false) (hu : I64 t.u) (he : I64 t.e) {v : Value} {w : World} (hv : EntAt w v t.es) : Calls Try.prog 11 #[tbV t v] w fun e w' => ∃ r, e = .returned r ∧ r = .tuple #[.int .i64 (place t : Int), .bool false] ∧ Below w.heap.size w w' := by
  have h := rtable_any t hu he hv
  rw [hb] at h
  exact h
theorem EntAt.formL {w : World} {v : Value} {es : List Ent} (h : EntAt w v es) : ∃ a c, v = .slice a es.length c := by
  obtain ⟨a, c, h1, _⟩ := h
  exact ⟨a, c, h1⟩
set_option maxHeartbeats 1000000 in
theorem lpanswers_any {w : World} : Calls Try.prog 12 #[] w fun e w' => ∃ r, e = .returned r ∧ r = .bool true ∧ Below w.heap.size w w' := by
  have lz := Later.refl w
  refine calls_Wp (args := []) (n := 58) Try.func12 rfl rfl (by simp) ?_
  refine Wp.seq ?_
  refine Wp.region [0] (by kernel_rfl) (by kernel_rfl) ?_
  refine s_assign rfl rfl rfl rfl ?_
  refine vOrd_nil ?_
  refine Wp.seq ?_
  refine Wp.region [0, 1, 2, 3, 4, 5, 6, 7, 8, 9] (by kernel_rfl) (by kernel_rfl) ?_
  refine s_build rfl rfl rfl rfl rfl (by kernel_rfl) ?_
  refine s_build rfl rfl rfl rfl rfl (by kernel_rfl) ?_
  refine s_bs (e := 37) (cs := [.int .i64 2272060800, .int .i64 10, .int .i64 2287785600, .int .i64 11]) rfl rfl rfl (fun _ => by kernel_rfl) ?_
  intro cb wb hcb lb hrow
  have hv := rowY hrow
  clear hrow
  replace lz := lz.trans lb
  try replace hL := hL.later lb
  have hz1 := lz.size
  refine s_build rfl rfl rfl rfl rfl (by kernel_rfl) ?_
  refine s_callT rfl rfl rfl (by kernel_rfl) rfl (new_yes tY tY_can in0 in0 hv) ?_
  rintro v w8 ⟨b1, c1, rfl, hc1, hb1, hL⟩ lw8
  replace lz := lz.trans lw8
  try replace hL := hL.later lw8
  refine s_move rfl rfl rfl rfl ?_
  refine s_extract rfl rfl rfl rfl rfl ?_
  refine s_extract rfl rfl rfl rfl rfl ?_
  refine s_assign rfl rfl rfl rfl ?_
  refine s_assign rfl rfl rfl rfl ?_
  refine vOrd_nil ?_
  refine Wp.seq ?_
  have hbz : w.heap.size ≤ b1 := by omega
  obtain ⟨cs1, hvb⟩ := hL.var
  refine Wp.adopt 1007 hvb hbz rfl (show AllMem (fun d => d ≠ b1) _ from (by repeat (first | exact AllMem.args | exact AllMem.of (by simp only [AllL, and_true]; omega) | refine AllMem.put ?_ | refine AllMem.new ?_ (by omega) | refine AllMem.set ?_ (by omega)))) ?_
  refine Wp.region [0, 1, 2, 3, 4, 5, 6] (by kernel_rfl) (by kernel_rfl) ?_
  refine s_move rfl rfl rfl rfl ?_
  refine s_callH 1007 rfl rfl rfl (by kernel_rfl) rfl rfl (fun vr => (length_some tY_can hL ⟨by omega, by omega⟩ tY_1 (by decide))) ?_
  rintro v cs9 w9 ⟨rfl, R9, _, hLq⟩ gw9 vw9
  replace lz := lz.past gw9 hbz
  clear hL
  have hL := hLq
  clear hLq
  refine s_move rfl rfl rfl rfl ?_
  refine s_extract rfl rfl rfl rfl rfl ?_
  refine s_extract rfl rfl rfl rfl rfl ?_
  refine s_assign rfl rfl rfl rfl ?_
  refine s_assign rfl rfl rfl rfl ?_
  refine vOrd_nil ?_
  refine Wp.seq ?_
  refine Wp.region [0, 1, 2, 3, 4, 5, 6] (by kernel_rfl) (by kernel_rfl) ?_
  refine s_move rfl rfl rfl rfl ?_
  refine s_callH 1007 rfl rfl rfl (by kernel_rfl) rfl rfl (fun vr => (offset_any tY_can hL ⟨by omega, by omega⟩ tY_2)) ?_
  rintro v cs10 w10 ⟨rfl, R10, _, hLq⟩ gw10 vw10
  replace lz := lz.past gw10 hbz
  clear hL
  have hL := hLq
  clear hLq
  refine s_move rfl rfl rfl rfl ?_
  refine s_extract rfl rfl rfl rfl rfl ?_
  refine s_extract rfl rfl rfl rfl rfl ?_
  refine s_assign rfl rfl rfl rfl ?_
  refine s_assign rfl rfl rfl rfl ?_
  refine vOrd_nil ?_
  refine Wp.seq ?_
  refine Wp.region [0, 1, 2, 3, 4, 5, 6, 7, 8, 9, 10, 11, 12, 13, 14, 15, 16, 17, 18, 19, 20, 21, 22, 23, 24, 25, 26, 27, 28, 29, 30, 31, 32, 33] (by kernel_rfl) (by kernel_rfl) ?_
  refine s_move rfl rfl rfl rfl ?_
  refine t_eql rfl rfl rfl rfl rfl (by omega) ?_
  refine s_move rfl rfl rfl rfl ?_
  refine s_move rfl rfl rfl rfl ?_
  refine s_callH 1007 rfl rfl rfl (by kernel_rfl) rfl rfl (fun vr => (first_any tY_can hL)) ?_
  rintro v cs11 w11 ⟨rfl, R11, _, hLq⟩ gw11 vw11
  replace lz := lz.past gw11 hbz
  clear hL
  have hL := hLq
  clear hLq
  refine t_eql rfl rfl rfl rfl rfl (by decide) ?_
  refine s_pick rfl rfl rfl rfl rfl ?_
  refine s_move rfl rfl rfl rfl ?_
  refine s_move rfl rfl rfl rfl ?_
  refine t_eql rfl rfl rfl rfl rfl (by omega) ?_
  refine s_pick rfl rfl rfl rfl rfl ?_
  refine s_move rfl rfl rfl rfl ?_
  refine s_move rfl rfl rfl rfl ?_
  refine t_eql rfl rfl rfl rfl rfl (by decide) ?_
  refine s_pick rfl rfl rfl rfl rfl ?_
  refine s_move rfl rfl rfl rfl ?_
  refine s_move rfl rfl rfl rfl ?_
  refine t_eql rfl rfl rfl rfl rfl (by decide) ?_
  refine s_pick rfl rfl rfl rfl rfl ?_
  refine s_move rfl rfl rfl rfl ?_
  refine s_move rfl rfl rfl rfl ?_
  refine t_eql rfl rfl rfl rfl rfl (by decide) ?_
  refine s_pick rfl rfl rfl rfl rfl ?_
  refine s_move rfl rfl rfl rfl ?_
  refine s_move rfl rfl rfl rfl ?_
  refine s_callH 1007 rfl rfl rfl (by kernel_rfl) rfl rfl (fun vr => (change_any tY_can hL ⟨by omega, by omega⟩ tY_1)) ?_
  rintro v cs12 w12 ⟨rfl, R12, _, hLq⟩ gw12 vw12
  replace lz := lz.past gw12 hbz
  clear hL
  have hL := hLq
  clear hLq
  refine t_eql rfl rfl rfl rfl rfl (by decide) ?_
  refine s_pick rfl rfl rfl rfl rfl ?_
  refine s_move rfl rfl rfl rfl ?_
  refine s_move rfl rfl rfl rfl ?_
  refine s_callT rfl rfl rfl (by kernel_rfl) rfl (asked_any hL) ?_
  rintro v w13 rfl lw13
  replace lz := lz.trans lw13
  try replace hL := hL.later lw13
  refine t_eql rfl rfl rfl rfl rfl (by omega) ?_
  refine s_pick rfl rfl rfl rfl rfl ?_
  refine s_assign rfl rfl rfl rfl ?_
  refine vOrd_nil ?_
  refine Wp.ret ⟨.inr rfl, fun lW => ⟨_, res_tmp (P := Try.prog) rfl rfl, _, rfl, ?_, lW⟩⟩
  clear lW
  rfl
theorem law_none (n : Int) {w : World} : Calls Try.prog 9 #[.int .i64 n] w fun e w' => ∃ r, e = .returned r ∧ r = .bool true ∧ Below w.heap.size w w' := by
  refine calls_Wp (args := [_]) (n := 81) Try.func9 rfl rfl (by simp) ?_
  refine Wp.seq ?_
  refine Wp.region [0] (by kernel_rfl) (by kernel_rfl) ?_
  refine s_assign rfl rfl rfl rfl ?_
  refine vOrd_nil ?_
  refine Wp.seq ?_
  refine Wp.region [0] (by kernel_rfl) (by kernel_rfl) ?_
  refine s_assign rfl rfl rfl rfl ?_
  refine vOrd_nil ?_
  refine Wp.seq ?_
  refine Wp.region [0, 1, 2, 3, 4, 5, 6, 7] (by kernel_rfl) (by kernel_rfl) ?_
  refine s_move rfl rfl rfl rfl ?_
  refine s_move rfl rfl rfl rfl ?_
  refine s_callT rfl rfl rfl (by kernel_rfl) rfl (offset_nil) ?_
  rintro v w1 rfl lw1
  refine s_move rfl rfl rfl rfl ?_
  refine s_extract rfl rfl rfl rfl rfl ?_
  refine s_extract rfl rfl rfl rfl rfl ?_
  refine s_assign rfl rfl rfl rfl ?_
  refine s_assign rfl rfl rfl rfl ?_
  refine vOrd_nil ?_
  refine Wp.seq ?_
  refine Wp.region [0, 1, 2, 3, 4, 5, 6, 7] (by kernel_rfl) (by kernel_rfl) ?_
  refine s_move rfl rfl rfl rfl ?_
  refine s_move rfl rfl rfl rfl ?_
  refine s_callT rfl rfl rfl (by kernel_rfl) rfl (length_nil) ?_
  rintro v w2 rfl lw2
  refine s_move rfl rfl rfl rfl ?_
  refine s_extract rfl rfl rfl rfl rfl ?_
  refine s_extract rfl rfl rfl rfl rfl ?_
  refine s_assign rfl rfl rfl rfl ?_
  refine s_assign rfl rfl rfl rfl ?_
  refine vOrd_nil ?_
  refine Wp.seq ?_
  refine Wp.region [0, 1, 2, 3, 4, 5, 6, 7, 8, 9] (by kernel_rfl) (by kernel_rfl) ?_
  refine s_move rfl rfl rfl rfl ?_
  refine s_move rfl rfl rfl rfl ?_
  refine s_callT rfl rfl rfl (by kernel_rfl) rfl (at_nil) ?_
  rintro v w3 rfl lw3
  refine s_move rfl rfl rfl rfl ?_
  refine s_extract rfl rfl rfl rfl rfl ?_
  refine s_extract rfl rfl rfl rfl rfl ?_
  refine s_extract rfl rfl rfl rfl rfl ?_
  refine s_assign rfl rfl rfl rfl ?_
  refine s_assign rfl rfl rfl rfl ?_
  refine s_assign rfl rfl rfl rfl ?_
  refine vOrd_nil ?_
  refine Wp.seq ?_
  refine Wp.region [0, 1, 2, 3, 4, 5, 6, 7, 8, 9, 10, 11, 12, 13, 14, 15, 16, 17, 18, 19, 20, 21, 22, 23, 24, 25, 26, 27, 28, 29, 30, 31, 32, 33, 34, 35, 36, 37, 38, 39, 40, 41, 42, 43, 44, 45, 46, 47, 48, 49, 50, 51] (by kernel_rfl) (by kernel_rfl) ?_
  refine s_callT rfl rfl rfl (by kernel_rfl) rfl (lpanswers_any) ?_
  rintro v w4 rfl lw4
  refine s_move rfl rfl rfl rfl ?_
  refine s_move rfl rfl rfl rfl ?_
  refine t_eql rfl rfl rfl rfl rfl (by omega) ?_
  refine s_pick rfl rfl rfl rfl rfl ?_
  refine s_move rfl rfl rfl rfl ?_
  refine s_move rfl rfl rfl rfl ?_
  refine t_eql rfl rfl rfl rfl rfl (by omega) ?_
  refine s_pick rfl rfl rfl rfl rfl ?_
  refine s_move rfl rfl rfl rfl ?_
  refine s_move rfl rfl rfl rfl ?_
  refine t_eql rfl rfl rfl rfl rfl (by omega) ?_
  refine s_pick rfl rfl rfl rfl rfl ?_
  refine s_move rfl rfl rfl rfl ?_
  refine s_move rfl rfl rfl rfl ?_
  refine t_eql rfl rfl rfl rfl rfl (by omega) ?_
  refine s_pick rfl rfl rfl rfl rfl ?_
  refine s_move rfl rfl rfl rfl ?_
  refine s_move rfl rfl rfl rfl ?_
  refine t_eql rfl rfl rfl rfl rfl (by omega) ?_
  refine s_pick rfl rfl rfl rfl rfl ?_
  refine s_move rfl rfl rfl rfl ?_
  refine s_move rfl rfl rfl rfl ?_
  refine t_eql rfl rfl rfl rfl rfl (by omega) ?_
  refine s_pick rfl rfl rfl rfl rfl ?_
  refine s_move rfl rfl rfl rfl ?_
  refine s_move rfl rfl rfl rfl ?_
  refine t_eql rfl rfl rfl rfl rfl (by omega) ?_
  refine s_pick rfl rfl rfl rfl rfl ?_
  refine s_move rfl rfl rfl rfl ?_
  refine s_move rfl rfl rfl rfl ?_
  refine s_callT rfl rfl rfl (by kernel_rfl) rfl (first_nil) ?_
  rintro v w5 rfl lw5
  refine t_eql rfl rfl rfl rfl rfl (by omega) ?_
  refine s_pick rfl rfl rfl rfl rfl ?_
  refine s_move rfl rfl rfl rfl ?_
  refine s_move rfl rfl rfl rfl ?_
  refine s_move rfl rfl rfl rfl ?_
  refine s_callT rfl rfl rfl (by kernel_rfl) rfl (change_nil) ?_
  rintro v w6 rfl lw6
  refine t_eql rfl rfl rfl rfl rfl (by omega) ?_
  refine s_pick rfl rfl rfl rfl rfl ?_
  refine s_move rfl rfl rfl rfl ?_
  refine s_move rfl rfl rfl rfl ?_
  refine s_callT rfl rfl rfl (by kernel_rfl) rfl (asked_nil) ?_
  rintro v w7 rfl lw7
  refine t_eql rfl rfl rfl rfl rfl (by omega) ?_
  refine s_pick rfl rfl rfl rfl rfl ?_
  refine s_move rfl rfl rfl rfl ?_
  refine s_move rfl rfl rfl rfl ?_
  refine s_callT rfl rfl rfl (by kernel_rfl) rfl (table_nil) ?_
  rintro v w8 rfl lw8
  refine s_build rfl rfl rfl rfl rfl (by kernel_rfl) ?_
  refine s_callT rfl rfl rfl (by kernel_rfl) rfl (tsame_any ⟨0, 0, []⟩ in0 in0 (EntAt.nil _) (EntAt.nil _) (by decide)) ?_
  rintro v w9 rfl lw9
  refine s_pick rfl rfl rfl rfl rfl ?_
  refine s_assign rfl rfl rfl rfl ?_
  refine vOrd_nil ?_
  refine Wp.ret ⟨.inr rfl, fun lW => ⟨_, res_tmp (P := Try.prog) rfl rfl, _, rfl, ?_, lW⟩⟩
  clear lW
  rfl
end Go.Proofs.Ytgpnapeobkiekaa
