/-
  Leap seconds: the walks of the laws LeapsAsked and LeapsOwn of layer 12.
-/
import Derived.Test.YtgpnapeobkiekaaLpL
namespace Go.Proofs.Ytgpnapeobkiekaa
open Go.RowKit
set_option maxRecDepth 100000

theorem length_any {t : Tb} {b c : Nat} {R : Option Nat} {k : Int} {w : World} (hb : canBe t = true) (hL : Lp w b c R t k) (hk : 0 ≤ k ∧ k ≤ 1000000) {day : Int} {K : Nat} (hcut : Cut (pDay day) t.es K) : Calls Try.prog 19 #[.pointer (some ⟨b, 0, none⟩), .int .i64 day] w fun e w' => ∃ v, e = .returned v ∧ (∃ cs', (True ∧ ∃ R', Nx w R R' ∧ Lp w' b c R' t (k + 1)) ∧ Var w' b cs') ∧ w.grownBy w' (some b) := by
  rcases Nat.eq_zero_or_pos K with hK | hK
  · refine (length_none hb hL hk hcut hK).mono ?_
    rintro e w' ⟨v, h1, ⟨cs', ⟨_, h2⟩, h3⟩, h4⟩
    exact ⟨v, h1, ⟨cs', ⟨trivial, h2⟩, h3⟩, h4⟩
  · refine (length_some hb hL hk hcut hK).mono ?_
    rintro e w' ⟨v, h1, ⟨cs', ⟨_, h2⟩, h3⟩, h4⟩
    exact ⟨v, h1, ⟨cs', ⟨trivial, h2⟩, h3⟩, h4⟩
theorem ents_ownI {w : World} {base : Nat} {v : Value} {es : List Ent} (h : w.ownsRow base 37 2 v es.length (entC es)) (hi : ∀ (j : Nat) (x : Ent), es[j]? = some x → I64 x.1 ∧ I64 x.2) : EntAt w v es := by
  rcases h.2 with ⟨h1, h2⟩ | ⟨g, cap, cur, h1, _, h3, h4, _, _, h7⟩
  · subst h1
    exact ⟨none, 0, by rw [h2], by omega, fun j x hj => by have := (List.getElem?_eq_some_iff.1 hj).1; omega⟩
  · refine ⟨_, cap, h1, h4, fun j x hj => ?_⟩
    have hlt := (List.getElem?_eq_some_iff.1 hj).1
    have hc := entC_at es j x hj
    have key : ∀ q u, q < es.length * 2 → (entC es)[q]? = some u → w.cell? ⟨g, 0 + q, none⟩ = some u := fun q u hq hu => by
      rw [Nat.zero_add, cell_of_row w g q _ _ _ h3]
      rw [← h7, List.getElem?_take_of_lt hq] at hu
      simpa using hu
    refine ⟨(hi j x hj).1, (hi j x hj).2, g, 0, rfl, key _ _ (by omega) hc.1, ?_⟩
    have := key _ _ (by omega) hc.2
    rwa [← Nat.add_assoc] at this
theorem EntAt.ints {w : World} {v : Value} {es : List Ent} (h : EntAt w v es) : ∀ (j : Nat) (x : Ent), es[j]? = some x → I64 x.1 ∧ I64 x.2 := fun j x hx => by
  obtain ⟨_, _, _, _, hc⟩ := h
  exact ⟨(hc j x hx).1, (hc j x hx).2.1⟩
theorem src_any {w : World} {ab ao c0 : Nat} {es : List Ent} (hv : EntAt w (.slice (some ⟨ab, ao, none⟩) es.length c0) es) : ∀ j y, (entC es)[j]? = some y → w.cell? ⟨ab, ao + j, none⟩ = some y := fun j y hj => by
  have hl := (List.getElem?_eq_some_iff.1 hj).1
  rw [entC_len] at hl
  obtain ⟨b, o, e, hc⟩ := ent_src hv (by omega)
  cases e
  exact hc j y hj
theorem new_no0 (t : Tb) (hb : canBe t = false) (hu : I64 t.u) (he : I64 t.e) (h0 : t.es = []) {c : Nat} {w : World} : Calls Try.prog 10 #[tbV t (.slice (some ⟨c, 0, none⟩) 0 0)] w fun e w' => ∃ r, e = .returned r ∧ r = .tuple #[.pointer none, .int .i64 10] ∧ Below w.heap.size w w' := by
  have hl : t.es.length = 0 := by rw [h0]; rfl
  have hv : EntAt w (.slice (some ⟨c, 0, none⟩) t.es.length 0) t.es := ⟨_, _, rfl, by omega, fun j x hj => by rw [h0] at hj; simp at hj⟩
  have h := new_no t hb hu he hv
  rw [hl] at h
  exact h
theorem can_nil (u e : Int) : canBe ⟨u, e, []⟩ = false := by simp [canBe]
set_option maxHeartbeats 2000000 in
theorem law_asked (t : Tb) (hu : I64 t.u) (he : I64 t.e) {v : Value} {w : World} (hv : EntAt w v t.es) {d : Value} {l : List Int} (hi : IntsAt w d l) : Calls Try.prog 7 #[tbV t v, d] w fun e w' => ∃ r, e = .returned r ∧ r = .bool true ∧ Below w.heap.size w w' := by
  obtain ⟨va, vc, rfl⟩ := hv.formL
  have lz := Later.refl w
  obtain ⟨da, dc, rfl⟩ := hi.form
  cases hb : canBe t with
  | false =>
    refine calls_Wp (args := [_, _]) (n := 87) Try.func7 rfl rfl (by simp) ?_
    refine Wp.seq ?_
    refine Wp.region [0, 1] (by kernel_rfl) (by kernel_rfl) ?_
    refine s_box rfl rfl rfl rfl rfl rfl (fun bs2 ws2 ks2 ls2 => ?_)
    have kz2 := Nat.le_trans lz.size ks2
    try have nL2 := hL.ne ks2
    replace lz := lz.trans ls2
    try replace hL := hL.later ls2
    refine s_assign rfl rfl rfl rfl ?_
    refine vOrd_nil ?_
    refine Wp.seq ?_
    refine Wp.var (h := 2) rfl (fun v2 => ?_)
    have q2 := v2.lt
    have hz1 := lz.size
    refine Wp.region [0, 1, 2, 3, 4, 5, 6] (by kernel_rfl) (by kernel_rfl) ?_
    refine s_load rfl rfl rfl rfl rfl rfl rfl ?_
    refine s_callT rfl rfl rfl (by kernel_rfl) rfl (new_no t hb hu he (hv.later lz)) ?_
    rintro v w6 rfl lw6
    replace lz := lz.trans lw6
    try replace hL := hL.later lw6
    refine s_move rfl rfl rfl rfl ?_
    refine s_extract rfl rfl rfl rfl rfl ?_
    refine s_extract rfl rfl rfl rfl rfl ?_
    refine s_assign rfl rfl rfl rfl ?_
    refine s_assign rfl rfl rfl rfl ?_
    refine vOrd_nil ?_
    refine Wp.seq ?_
    refine Wp.seq ?_
    refine Wp.region [0, 1, 2, 3, 4, 5, 6] (by kernel_rfl) (by kernel_rfl) ?_
    refine s_move rfl rfl rfl rfl ?_
    refine t_neq rfl rfl rfl rfl rfl (by omega) ?_
    refine s_move rfl rfl rfl rfl ?_
    refine s_skip rfl rfl rfl ?_
    refine s_skip rfl rfl rfl ?_
    refine s_skip rfl rfl rfl ?_
    refine s_pick rfl rfl rfl rfl rfl ?_
    refine vOrd_nil ?_
    refine Wp.condT rfl rfl ?_
    refine Wp.seq ?_
    refine Wp.region [0, 1] (by kernel_rfl) (by kernel_rfl) ?_
    refine s_callT rfl rfl rfl (by kernel_rfl) rfl (lpanswers_any) ?_
    rintro v w7 rfl lw7
    replace lz := lz.trans lw7
    try replace hL := hL.later lw7
    refine s_assign rfl rfl rfl rfl ?_
    refine vOrd_nil ?_
    refine Wp.ret ⟨.inr rfl, fun lW => ⟨_, res_tmp (P := Try.prog) rfl rfl, _, rfl, ?_, lW⟩⟩
    clear lW
    rfl
  | true =>
    refine calls_Wp (args := [_, _]) (n := 87) Try.func7 rfl rfl (by simp) ?_
    refine Wp.seq ?_
    refine Wp.region [0, 1] (by kernel_rfl) (by kernel_rfl) ?_
    refine s_box rfl rfl rfl rfl rfl rfl (fun bs2 ws2 ks2 ls2 => ?_)
    have kz2 := Nat.le_trans lz.size ks2
    try have nL2 := hL.ne ks2
    replace lz := lz.trans ls2
    try replace hL := hL.later ls2
    refine s_assign rfl rfl rfl rfl ?_
    refine vOrd_nil ?_
    refine Wp.seq ?_
    refine Wp.var (h := 2) rfl (fun v2 => ?_)
    have q2 := v2.lt
    have hz1 := lz.size
    refine Wp.region [0, 1, 2, 3, 4, 5, 6] (by kernel_rfl) (by kernel_rfl) ?_
    refine s_load rfl rfl rfl rfl rfl rfl rfl ?_
    refine s_callT rfl rfl rfl (by kernel_rfl) rfl (new_yes t hb hu he (hv.later lz)) ?_
    rintro v w6 ⟨b1, c1, rfl, hc1, hb1, hL⟩ lw6
    replace lz := lz.trans lw6
    try replace hL := hL.later lw6
    refine s_move rfl rfl rfl rfl ?_
    refine s_extract rfl rfl rfl rfl rfl ?_
    refine s_extract rfl rfl rfl rfl rfl ?_
    refine s_assign rfl rfl rfl rfl ?_
    refine s_assign rfl rfl rfl rfl ?_
    refine vOrd_nil ?_
    refine Wp.seq ?_
    refine Wp.seq ?_
    refine Wp.region [0, 1, 2, 3, 4, 5, 6] (by kernel_rfl) (by kernel_rfl) ?_
    refine s_move rfl rfl rfl rfl ?_
    refine f_neq rfl rfl rfl rfl rfl (by omega) ?_
    refine s_move rfl rfl rfl rfl ?_
    refine s_move rfl rfl rfl rfl ?_
    refine x_len rfl rfl rfl rfl rfl ?_
    refine p_gtr rfl rfl rfl rfl rfl (fun h23 => ?_) (fun h23 => ?_)
    · refine s_pick rfl rfl rfl rfl rfl ?_
      refine vOrd_nil ?_
      refine Wp.condT rfl rfl ?_
      refine Wp.seq ?_
      refine Wp.region [0, 1] (by kernel_rfl) (by kernel_rfl) ?_
      refine s_callT rfl rfl rfl (by kernel_rfl) rfl (lpanswers_any) ?_
      rintro v w7 rfl lw7
      replace lz := lz.trans lw7
      try replace hL := hL.later lw7
      refine s_assign rfl rfl rfl rfl ?_
      refine vOrd_nil ?_
      refine Wp.ret ⟨.inr rfl, fun lW => ⟨_, res_tmp (P := Try.prog) rfl rfl, _, rfl, ?_, lW⟩⟩
      clear lW
      rfl
    · refine s_pick rfl rfl rfl rfl rfl ?_
      refine vOrd_nil ?_
      refine Wp.condF rfl rfl ?_
      refine Wp.skip ?_
      refine Wp.seq ?_
      have hbz : w.heap.size ≤ b1 := by omega
      obtain ⟨cs1, hvb⟩ := hL.var
      refine Wp.adopt 1007 hvb hbz rfl (show AllMem (fun d => d ≠ b1) _ from (by repeat (first | exact AllMem.args | exact AllMem.of (by simp only [AllL, and_true]; omega) | refine AllMem.put ?_ | refine AllMem.new ?_ (by omega) | refine AllMem.set ?_ (by omega)))) ?_
      refine Wp.region [0] (by kernel_rfl) (by kernel_rfl) ?_
      refine s_assign rfl rfl rfl rfl ?_
      refine vOrd_nil ?_
      refine Wp.seq ?_
      refine Wp.seq ?_
      refine Wp.region [0] (by kernel_rfl) (by kernel_rfl) ?_
      refine s_assign rfl rfl rfl rfl ?_
      refine vOrd_nil ?_
      refine Wp.block ?_
      refine Wp.loop (fun k st W => ∃ (i : Nat) (p q : Int) (R : Option Nat) (cs : List Value), st = St.of [(1, .v (.slice da l.length dc)), (2, .p 2 bs2 0), (5, .v (.pointer (some ⟨b1, 0, none⟩))), (7, .v (.int .i64 q)), (8, .v (.int .i64 p))] [(2, bs2, [.int .i64 t.u, .int .i64 t.e, .slice va t.es.length vc]), (1007, b1, cs)] ∧ p = i ∧ q = 5 * (i : Int) ∧ i ≤ l.length ∧ Lp W b1 c1 R t q ∧ Later w W ∧ k = l.length - i) ?_ ?_
      · exact ⟨_, _, (St.of_le' (env := [(1, .v _), (2, .p 2 _ 0), (5, .v _), (7, .v _), (8, .v _)]) (mem := [(2, _, [_, _, _]), (1007, _, _)]) ⟨rfl, rfl, rfl, rfl, rfl, trivial⟩ ⟨rfl, rfl, trivial⟩), 0, _, _, none, _, rfl, rfl, rfl, Nat.zero_le _, hL, lz, rfl⟩
      · rintro k st w8 ⟨i, p, q, R, cs, rfl, hp, hq, hil, hL, lz, rfl⟩
        refine Wp.seq ?_
        refine Wp.seq ?_
        refine Wp.region [0, 1, 2, 3] (by kernel_rfl) (by kernel_rfl) ?_
        refine s_move rfl rfl rfl rfl ?_
        refine s_move rfl rfl rfl rfl ?_
        refine x_len rfl rfl rfl rfl rfl ?_
        refine p_lss rfl rfl rfl rfl rfl (fun h29 => ?_) (fun h29 => ?_)
        · refine vOrd_nil ?_
          refine Wp.condT rfl rfl ?_
          refine Wp.skip ?_
          refine Wp.seq ?_
          refine Wp.block ?_
          refine Wp.seq ?_
          obtain ⟨x, hx⟩ : ∃ x, l[i]? = some x := ⟨l[i]'(by omega), List.getElem?_eq_getElem _⟩
          obtain ⟨ia, ic, ie, _, hic⟩ := hi
          cases ie
          obtain ⟨hxi, ib, io, rfl, hxc⟩ := hic i x hx
          obtain ⟨K, hcut⟩ := cut_day hb x
          obtain ⟨Ks, hcuts⟩ := cut_at hb x
          refine Wp.region [0, 1, 2, 3, 4, 5, 6, 7, 8, 9, 10] (by kernel_rfl) (by kernel_rfl) ?_
          refine s_move rfl rfl rfl rfl ?_
          refine s_move rfl rfl rfl rfl ?_
          refine s_move rfl rfl rfl rfl ?_
          refine s_idx (sz := 1) (io + i) rfl rfl rfl rfl rfl rfl rfl (by omega) (by omega) (by omega) ?_
          refine x_ldc rfl rfl rfl rfl rfl (cell_later lz hxc) ?_
          refine s_callH 1007 rfl rfl rfl (by kernel_rfl) rfl rfl (fun vr => (offset_any hb hL ⟨by omega, by omega⟩ hcut)) ?_
          rintro v cs11 w11 ⟨rfl, R11, _, hLq⟩ gw11 vw11
          replace lz := lz.past gw11 hbz
          clear hL
          have hL := hLq
          clear hLq
          refine s_move rfl rfl rfl rfl ?_
          refine s_extract rfl rfl rfl rfl rfl ?_
          refine s_extract rfl rfl rfl rfl rfl ?_
          refine s_assign rfl rfl rfl rfl ?_
          refine s_assign rfl rfl rfl rfl ?_
          refine vOrd_nil ?_
          refine Wp.seq ?_
          refine Wp.region [0, 1, 2, 3, 4, 5, 6, 7, 8, 9, 10] (by kernel_rfl) (by kernel_rfl) ?_
          refine s_move rfl rfl rfl rfl ?_
          refine s_move rfl rfl rfl rfl ?_
          refine s_move rfl rfl rfl rfl ?_
          refine s_idx (sz := 1) (io + i) rfl rfl rfl rfl rfl rfl rfl (by omega) (by omega) (by omega) ?_
          refine x_ldc rfl rfl rfl rfl rfl (cell_later lz hxc) ?_
          refine s_callH 1007 rfl rfl rfl (by kernel_rfl) rfl rfl (fun vr => (offset_any hb hL ⟨by omega, by omega⟩ hcut)) ?_
          rintro v cs14 w14 ⟨rfl, R14, _, hLq⟩ gw14 vw14
          replace lz := lz.past gw14 hbz
          clear hL
          have hL := hLq
          clear hLq
          refine s_move rfl rfl rfl rfl ?_
          refine s_extract rfl rfl rfl rfl rfl ?_
          refine s_extract rfl rfl rfl rfl rfl ?_
          refine s_assign rfl rfl rfl rfl ?_
          refine s_assign rfl rfl rfl rfl ?_
          refine vOrd_nil ?_
          refine Wp.seq ?_
          refine Wp.region [0, 1, 2, 3, 4, 5] (by kernel_rfl) (by kernel_rfl) ?_
          refine s_move rfl rfl rfl rfl ?_
          refine s_move rfl rfl rfl rfl ?_
          refine s_move rfl rfl rfl rfl ?_
          refine s_idx (sz := 1) (io + i) rfl rfl rfl rfl rfl rfl rfl (by omega) (by omega) (by omega) ?_
          refine x_ldc rfl rfl rfl rfl rfl (cell_later lz hxc) ?_
          refine s_callH 1007 rfl rfl rfl (by kernel_rfl) rfl rfl (fun vr => (change_any hb hL ⟨by omega, by omega⟩ hcut)) ?_
          rintro v cs17 w17 ⟨rfl, R17, _, hLq⟩ gw17 vw17
          replace lz := lz.past gw17 hbz
          clear hL
          have hL := hLq
          clear hLq
          refine vOrd_nil ?_
          refine Wp.seq ?_
          refine Wp.region [0, 1, 2, 3, 4, 5] (by kernel_rfl) (by kernel_rfl) ?_
          refine s_move rfl rfl rfl rfl ?_
          refine s_move rfl rfl rfl rfl ?_
          refine s_move rfl rfl rfl rfl ?_
          refine s_idx (sz := 1) (io + i) rfl rfl rfl rfl rfl rfl rfl (by omega) (by omega) (by omega) ?_
          refine x_ldc rfl rfl rfl rfl rfl (cell_later lz hxc) ?_
          refine s_callH 1007 rfl rfl rfl (by kernel_rfl) rfl rfl (fun vr => (length_any hb hL ⟨by omega, by omega⟩ hcut)) ?_
          rintro v cs20 w20 ⟨_, R20, _, hLq⟩ gw20 vw20
          replace lz := lz.past gw20 hbz
          clear hL
          have hL := hLq
          clear hLq
          refine vOrd_nil ?_
          refine Wp.seq ?_
          refine Wp.region [0, 1, 2, 3, 4, 5] (by kernel_rfl) (by kernel_rfl) ?_
          refine s_move rfl rfl rfl rfl ?_
          refine s_move rfl rfl rfl rfl ?_
          refine s_move rfl rfl rfl rfl ?_
          refine s_idx (sz := 1) (io + i) rfl rfl rfl rfl rfl rfl rfl (by omega) (by omega) (by omega) ?_
          refine x_ldc rfl rfl rfl rfl rfl (cell_later lz hxc) ?_
          refine s_callH 1007 rfl rfl rfl (by kernel_rfl) rfl rfl (fun vr => (at_any hb hL ⟨by omega, by omega⟩ hcuts)) ?_
          rintro v cs23 w23 ⟨rfl, R23, _, hLq⟩ gw23 vw23
          replace lz := lz.past gw23 hbz
          clear hL
          have hL := hLq
          clear hLq
          refine vOrd_nil ?_
          refine Wp.seq ?_
          refine Wp.region [0, 1] (by kernel_rfl) (by kernel_rfl) ?_
          refine s_move rfl rfl rfl rfl ?_
          refine s_callH 1007 rfl rfl rfl (by kernel_rfl) rfl rfl (fun vr => (first_any hb hL)) ?_
          rintro v cs24 w24 ⟨rfl, R24, _, hLq⟩ gw24 vw24
          replace lz := lz.past gw24 hbz
          clear hL
          have hL := hLq
          clear hLq
          refine vOrd_nil ?_
          refine Wp.seq ?_
          refine Wp.region [0, 1, 2] (by kernel_rfl) (by kernel_rfl) ?_
          refine s_move rfl rfl rfl rfl ?_
          refine a_add (-9223372036854775808) 9223372036854775807 (by decide) rfl rfl rfl rfl rfl (by omega) (by omega) ?_
          refine s_assign rfl rfl rfl rfl ?_
          refine vOrd_nil ?_
          refine Wp.seq ?_
          refine Wp.region [0, 1, 2, 3, 4, 5, 6, 7, 8, 9, 10, 11, 12, 13] (by kernel_rfl) (by kernel_rfl) ?_
          refine s_move rfl rfl rfl rfl ?_
          refine s_move rfl rfl rfl rfl ?_
          refine f_neq rfl rfl rfl rfl rfl (by rfl) ?_
          refine s_move rfl rfl rfl rfl ?_
          refine s_move rfl rfl rfl rfl ?_
          refine s_move rfl rfl rfl rfl ?_
          refine f_neq rfl rfl rfl rfl rfl (by rfl) ?_
          refine s_pick rfl rfl rfl rfl rfl ?_
          refine s_move rfl rfl rfl rfl ?_
          refine s_move rfl rfl rfl rfl ?_
          refine s_callT rfl rfl rfl (by kernel_rfl) rfl (asked_any hL) ?_
          rintro v w25 rfl lw25
          replace lz := lz.trans lw25
          try replace hL := hL.later lw25
          refine s_move rfl rfl rfl rfl ?_
          refine f_neq rfl rfl rfl rfl rfl (by omega) ?_
          refine s_pick rfl rfl rfl rfl rfl ?_
          refine vOrd_nil ?_
          refine Wp.condF rfl rfl ?_
          refine Wp.skip ?_
          refine Wp.region [0, 1, 2] (by kernel_rfl) (by kernel_rfl) ?_
          refine s_move rfl rfl rfl rfl ?_
          refine a_add (-9223372036854775808) 9223372036854775807 (by decide) rfl rfl rfl rfl rfl (by omega) (by omega) ?_
          refine s_assign rfl rfl rfl rfl ?_
          refine vOrd_nil ?_
          exact ⟨_, _, by omega, (St.of_le' (env := [(1, .v _), (2, .p 2 _ 0), (5, .v _), (7, .v _), (8, .v _)]) (mem := [(2, _, [_, _, _]), (1007, _, _)]) ⟨rfl, rfl, rfl, rfl, rfl, trivial⟩ ⟨rfl, rfl, trivial⟩), i + 1, _, _, _, _, rfl, by omega, by omega, by omega, by rw [show q + 5 = q + 1 + 1 + 1 + 1 + 1 by omega]; exact hL, lz, rfl⟩
        · refine vOrd_nil ?_
          refine Wp.condF rfl rfl ?_
          refine Wp.exit ?_
          refine Wp.seq ?_
          refine Wp.region [0, 1] (by kernel_rfl) (by kernel_rfl) ?_
          refine s_callT rfl rfl rfl (by kernel_rfl) rfl (lpanswers_any) ?_
          rintro v w26 rfl lw26
          replace lz := lz.trans lw26
          try replace hL := hL.later lw26
          refine s_assign rfl rfl rfl rfl ?_
          refine vOrd_nil ?_
          refine Wp.ret ⟨.inr rfl, fun lW => ⟨_, res_tmp (P := Try.prog) rfl rfl, _, rfl, ?_, lW⟩⟩
          clear lW
          rfl
set_option maxHeartbeats 2000000 in
theorem law_own0 (t : Tb) (hu : I64 t.u) (he : I64 t.e) (h0 : t.es = []) {w : World} : Calls Try.prog 8 #[tbV t (.slice none 0 0)] w fun e w' => ∃ r, e = .returned r ∧ r = .bool true ∧ Below w.heap.size w w' := by
  have lz := Later.refl w
  have hb : canBe t = false := by obtain ⟨u, e, es⟩ := t; simp only at h0; subst h0; exact can_nil u e
  refine calls_Wp (args := [_]) (n := 56) Try.func8 rfl rfl (by simp) ?_
  refine Wp.seq ?_
  refine Wp.region [0, 1] (by kernel_rfl) (by kernel_rfl) ?_
  refine s_box rfl rfl rfl rfl rfl rfl (fun bs1 ws1 ks1 ls1 => ?_)
  have kz1 := Nat.le_trans lz.size ks1
  try have nL1 := hL.ne ks1
  replace lz := lz.trans ls1
  try replace hL := hL.later ls1
  refine s_assign rfl rfl rfl rfl ?_
  refine vOrd_nil ?_
  refine Wp.seq ?_
  refine Wp.region [0, 1, 2] (by kernel_rfl) (by kernel_rfl) ?_
  refine s_load rfl rfl rfl rfl rfl rfl rfl ?_
  refine s_alloc rfl rfl rfl rfl rfl (fun bs3 ws3 ks3 ls3 => ?_)
  have kz3 := Nat.le_trans lz.size ks3
  try have nL3 := hL.ne ks3
  replace lz := lz.trans ls3
  try replace hL := hL.later ls3
  try replace vg := vg.later ls3
  try replace hq := hq.later ls3
  refine s_store rfl rfl rfl rfl rfl rfl rfl (fun w13 sw13 vw13 => ?_)
  replace lz := lz.sto sw13 kz3
  try replace hL := hL.sto sw13 nL3
  try replace vg := vg.sto sw13 (by omega)
  try replace hq := hq.sto sw13 (by omega)
  refine vOrd_nil ?_
  refine Wp.seq ?_
  refine Wp.var (h := 1) rfl (fun v1 => ?_)
  have q1 := v1.lt
  refine Wp.var (h := 3) rfl (fun v3 => ?_)
  have q3 := v3.lt
  refine Wp.region [0, 1, 2, 3, 4, 5] (by kernel_rfl) (by kernel_rfl) ?_
  refine s_bs (e := 37) (cs := []) rfl rfl rfl (fun _ => by kernel_rfl) ?_
  intro cb wb hcb lb hrow
  have hcz := Nat.le_trans lz.size hcb
  replace lz := lz.trans lb
  try replace hL := hL.later lb
  try replace vg := vg.later lb
  try replace hq := hq.later lb
  have hown0 := own_of_row (base := cb) (n := 0) (sz := 2) hrow (Nat.le_refl _) rfl (by decide)
  have hcl := hrow.var.lt
  have n1 : some cb ≠ some bs1 := by simp only [ne_eq, Option.some.injEq]; omega
  have n3 : some cb ≠ some bs3 := by simp only [ne_eq, Option.some.injEq]; omega
  refine s_field 2 rfl rfl rfl rfl rfl ?_
  refine s_load rfl rfl rfl rfl rfl rfl rfl ?_
  refine x_appendNil (base := cb) (sz := 2) (n := 0) (xs := []) rfl rfl rfl rfl rfl rfl rfl hown0 hcz (show AllMem (fun k => some cb ≠ some k) _ from (by repeat (first | exact AllMem.args | refine AllMem.put ?_ | refine AllMem.new ?_ n1 | refine AllMem.new ?_ n3 | refine AllMem.set ?_ n1 | refine AllMem.set ?_ n3))) ?_
  clear hown0
  refine s_field 2 rfl rfl rfl rfl rfl ?_
  refine s_store rfl rfl rfl rfl rfl rfl rfl (fun w27 sw27 vw27 => ?_)
  replace lz := lz.sto sw27 kz3
  try replace hL := hL.sto sw27 nL3
  try replace vg := vg.sto sw27 (by omega)
  try replace hq := hq.sto sw27 (by omega)
  refine vOrd_nil ?_
  refine Wp.seq ?_
  refine Wp.region [0, 1, 2, 3, 4, 5, 6] (by kernel_rfl) (by kernel_rfl) ?_
  refine s_load rfl rfl rfl rfl rfl rfl rfl ?_
  refine s_callT rfl rfl rfl (by kernel_rfl) rfl ((new_no0 t hb hu he h0)) ?_
  rintro v w28 rfl lw28
  replace lz := lz.trans lw28
  try replace hL := hL.later lw28
  try replace vg := vg.later lw28
  try replace hq := hq.later lw28
  refine s_move rfl rfl rfl rfl ?_
  refine s_extract rfl rfl rfl rfl rfl ?_
  refine s_extract rfl rfl rfl rfl rfl ?_
  refine s_assign rfl rfl rfl rfl ?_
  refine s_assign rfl rfl rfl rfl ?_
  refine vOrd_nil ?_
  refine Wp.seq ?_
  refine Wp.seq ?_
  refine Wp.region [0, 1] (by kernel_rfl) (by kernel_rfl) ?_
  refine s_move rfl rfl rfl rfl ?_
  refine t_neq rfl rfl rfl rfl rfl (by omega) ?_
  refine vOrd_nil ?_
  refine Wp.condT rfl rfl ?_
  refine Wp.seq ?_
  refine Wp.region [0, 1] (by kernel_rfl) (by kernel_rfl) ?_
  refine s_callT rfl rfl rfl (by kernel_rfl) rfl (lpanswers_any) ?_
  rintro v w29 rfl lw29
  replace lz := lz.trans lw29
  try replace hL := hL.later lw29
  try replace vg := vg.later lw29
  try replace hq := hq.later lw29
  refine s_assign rfl rfl rfl rfl ?_
  refine vOrd_nil ?_
  refine Wp.ret ⟨.inr rfl, fun lW => ⟨_, res_tmp (P := Try.prog) rfl rfl, _, rfl, ?_, lW⟩⟩
  clear lW
  rfl
set_option maxHeartbeats 2000000 in
theorem law_own1 (t : Tb) (hb : canBe t = false) (hu : I64 t.u) (he : I64 t.e) (hsz : t.es.length * 16 ≤ 140737488351232) {ab ao c0 : Nat} {w : World} (hv : EntAt w (.slice (some ⟨ab, ao, none⟩) t.es.length c0) t.es) : Calls Try.prog 8 #[tbV t (.slice (some ⟨ab, ao, none⟩) t.es.length c0)] w fun e w' => ∃ r, e = .returned r ∧ r = .bool true ∧ Below w.heap.size w w' := by
  have lz := Later.refl w
  have hsrc := src_any hv
  have hints := hv.ints
  refine calls_Wp (args := [_]) (n := 56) Try.func8 rfl rfl (by simp) ?_
  refine Wp.seq ?_
  refine Wp.region [0, 1] (by kernel_rfl) (by kernel_rfl) ?_
  refine s_box rfl rfl rfl rfl rfl rfl (fun bs1 ws1 ks1 ls1 => ?_)
  have kz1 := Nat.le_trans lz.size ks1
  try have nL1 := hL.ne ks1
  replace lz := lz.trans ls1
  try replace hL := hL.later ls1
  refine s_assign rfl rfl rfl rfl ?_
  refine vOrd_nil ?_
  refine Wp.seq ?_
  refine Wp.region [0, 1, 2] (by kernel_rfl) (by kernel_rfl) ?_
  refine s_load rfl rfl rfl rfl rfl rfl rfl ?_
  refine s_alloc rfl rfl rfl rfl rfl (fun bs3 ws3 ks3 ls3 => ?_)
  have kz3 := Nat.le_trans lz.size ks3
  try have nL3 := hL.ne ks3
  replace lz := lz.trans ls3
  try replace hL := hL.later ls3
  try replace vg := vg.later ls3
  try replace hq := hq.later ls3
  refine s_store rfl rfl rfl rfl rfl rfl rfl (fun w13 sw13 vw13 => ?_)
  replace lz := lz.sto sw13 kz3
  try replace hL := hL.sto sw13 nL3
  try replace vg := vg.sto sw13 (by omega)
  try replace hq := hq.sto sw13 (by omega)
  refine vOrd_nil ?_
  refine Wp.seq ?_
  refine Wp.var (h := 1) rfl (fun v1 => ?_)
  have q1 := v1.lt
  refine Wp.var (h := 3) rfl (fun v3 => ?_)
  have q3 := v3.lt
  refine Wp.region [0, 1, 2, 3, 4, 5] (by kernel_rfl) (by kernel_rfl) ?_
  refine s_bs (e := 37) (cs := []) rfl rfl rfl (fun _ => by kernel_rfl) ?_
  intro cb wb hcb lb hrow
  have hcz := Nat.le_trans lz.size hcb
  replace lz := lz.trans lb
  try replace hL := hL.later lb
  try replace vg := vg.later lb
  try replace hq := hq.later lb
  have hown0 := own_of_row (base := cb) (n := 0) (sz := 2) hrow (Nat.le_refl _) rfl (by decide)
  have hcl := hrow.var.lt
  have n1 : some cb ≠ some bs1 := by simp only [ne_eq, Option.some.injEq]; omega
  have n3 : some cb ≠ some bs3 := by simp only [ne_eq, Option.some.injEq]; omega
  refine s_field 2 rfl rfl rfl rfl rfl ?_
  refine s_load rfl rfl rfl rfl rfl rfl rfl ?_
  refine x_appendE (base := cb) (sz := 2) (bs := 16) (n := 0) (m := t.es.length) (news := entC t.es) rfl rfl rfl rfl rfl rfl rfl rfl rfl rfl rfl (by decide) hown0 (fun j y hj => cell_later lz (hsrc j y hj)) (entC_len _) (entC_one _) (by omega) (by omega) (by omega) hcz (show AllMem (fun k => some cb ≠ some k) _ from (by repeat (first | exact AllMem.args | refine AllMem.put ?_ | refine AllMem.new ?_ n1 | refine AllMem.new ?_ n3 | refine AllMem.set ?_ n1 | refine AllMem.set ?_ n3))) ?_
  intro v2 w2 hown2 hgr2
  rw [Nat.zero_add, List.nil_append] at hown2
  replace lz := lz.past (b := cb) hgr2 hcz
  have hvu := ents_ownI hown2 hints
  obtain ⟨a2, c2, rfl⟩ := hvu.formL
  have hbu := own_ne hown2 (b := bs3) (.inl (by omega))
  refine s_field 2 rfl rfl rfl rfl rfl ?_
  refine s_store rfl rfl rfl rfl rfl rfl rfl (fun wq sq vq => ?_)
  replace hvu := ents_ownI (own_sto hown2 sq hbu) hints
  replace lz := lz.sto sq kz3
  refine vOrd_nil ?_
  refine Wp.seq ?_
  refine Wp.region [0, 1, 2, 3, 4, 5, 6] (by kernel_rfl) (by kernel_rfl) ?_
  refine s_load rfl rfl rfl rfl rfl rfl rfl ?_
  refine s_callT rfl rfl rfl (by kernel_rfl) rfl (new_no t hb hu he hvu) ?_
  rintro v w35 rfl lw35
  replace lz := lz.trans lw35
  try replace hL := hL.later lw35
  try replace vg := vg.later lw35
  try replace hq := hq.later lw35
  refine s_move rfl rfl rfl rfl ?_
  refine s_extract rfl rfl rfl rfl rfl ?_
  refine s_extract rfl rfl rfl rfl rfl ?_
  refine s_assign rfl rfl rfl rfl ?_
  refine s_assign rfl rfl rfl rfl ?_
  refine vOrd_nil ?_
  refine Wp.seq ?_
  refine Wp.seq ?_
  refine Wp.region [0, 1] (by kernel_rfl) (by kernel_rfl) ?_
  refine s_move rfl rfl rfl rfl ?_
  refine t_neq rfl rfl rfl rfl rfl (by omega) ?_
  refine vOrd_nil ?_
  refine Wp.condT rfl rfl ?_
  refine Wp.seq ?_
  refine Wp.region [0, 1] (by kernel_rfl) (by kernel_rfl) ?_
  refine s_callT rfl rfl rfl (by kernel_rfl) rfl (lpanswers_any) ?_
  rintro v w36 rfl lw36
  replace lz := lz.trans lw36
  try replace hL := hL.later lw36
  try replace vg := vg.later lw36
  try replace hq := hq.later lw36
  refine s_assign rfl rfl rfl rfl ?_
  refine vOrd_nil ?_
  refine Wp.ret ⟨.inr rfl, fun lW => ⟨_, res_tmp (P := Try.prog) rfl rfl, _, rfl, ?_, lW⟩⟩
  clear lW
  rfl
set_option maxHeartbeats 4000000 in
theorem law_own2 (t : Tb) (hb : canBe t = true) (hu : I64 t.u) (he : I64 t.e) (hsz : t.es.length * 16 ≤ 140737488351232) {ab ao c0 : Nat} {w : World} (hv : EntAt w (.slice (some ⟨ab, ao, none⟩) t.es.length c0) t.es) : Calls Try.prog 8 #[tbV t (.slice (some ⟨ab, ao, none⟩) t.es.length c0)] w fun e w' => ∃ r, e = .returned r ∧ r = .bool true ∧ Below w.heap.size w w' := by
  have hn := can_len hb
  have hpos := (can_num hb).2.2
  have hall := fun j => can_all hb (j := j)
  have lz := Later.refl w
  have hsrc := src_any hv
  have hints := hv.ints
  refine calls_Wp (args := [_]) (n := 56) Try.func8 rfl rfl (by simp) ?_
  refine Wp.seq ?_
  refine Wp.region [0, 1] (by kernel_rfl) (by kernel_rfl) ?_
  refine s_box rfl rfl rfl rfl rfl rfl (fun bs1 ws1 ks1 ls1 => ?_)
  have kz1 := Nat.le_trans lz.size ks1
  try have nL1 := hL.ne ks1
  replace lz := lz.trans ls1
  try replace hL := hL.later ls1
  refine s_assign rfl rfl rfl rfl ?_
  refine vOrd_nil ?_
  refine Wp.seq ?_
  refine Wp.region [0, 1, 2] (by kernel_rfl) (by kernel_rfl) ?_
  refine s_load rfl rfl rfl rfl rfl rfl rfl ?_
  refine s_alloc rfl rfl rfl rfl rfl (fun bs3 ws3 ks3 ls3 => ?_)
  have kz3 := Nat.le_trans lz.size ks3
  try have nL3 := hL.ne ks3
  replace lz := lz.trans ls3
  try replace hL := hL.later ls3
  try replace vg := vg.later ls3
  try replace hq := hq.later ls3
  refine s_store rfl rfl rfl rfl rfl rfl rfl (fun w13 sw13 vw13 => ?_)
  replace lz := lz.sto sw13 kz3
  try replace hL := hL.sto sw13 nL3
  try replace vg := vg.sto sw13 (by omega)
  try replace hq := hq.sto sw13 (by omega)
  refine vOrd_nil ?_
  refine Wp.seq ?_
  refine Wp.var (h := 1) rfl (fun v1 => ?_)
  have q1 := v1.lt
  refine Wp.var (h := 3) rfl (fun v3 => ?_)
  have q3 := v3.lt
  refine Wp.region [0, 1, 2, 3, 4, 5] (by kernel_rfl) (by kernel_rfl) ?_
  refine s_bs (e := 37) (cs := []) rfl rfl rfl (fun _ => by kernel_rfl) ?_
  intro cb wb hcb lb hrow
  have hcz := Nat.le_trans lz.size hcb
  replace lz := lz.trans lb
  try replace hL := hL.later lb
  try replace vg := vg.later lb
  try replace hq := hq.later lb
  have hown0 := own_of_row (base := cb) (n := 0) (sz := 2) hrow (Nat.le_refl _) rfl (by decide)
  have hcl := hrow.var.lt
  have n1 : some cb ≠ some bs1 := by simp only [ne_eq, Option.some.injEq]; omega
  have n3 : some cb ≠ some bs3 := by simp only [ne_eq, Option.some.injEq]; omega
  refine s_field 2 rfl rfl rfl rfl rfl ?_
  refine s_load rfl rfl rfl rfl rfl rfl rfl ?_
  refine x_appendE (base := cb) (sz := 2) (bs := 16) (n := 0) (m := t.es.length) (news := entC t.es) rfl rfl rfl rfl rfl rfl rfl rfl rfl rfl rfl (by decide) hown0 (fun j y hj => cell_later lz (hsrc j y hj)) (entC_len _) (entC_one _) (by omega) (by omega) (by omega) hcz (show AllMem (fun k => some cb ≠ some k) _ from (by repeat (first | exact AllMem.args | refine AllMem.put ?_ | refine AllMem.new ?_ n1 | refine AllMem.new ?_ n3 | refine AllMem.set ?_ n1 | refine AllMem.set ?_ n3))) ?_
  intro v2 w2 hown2 hgr2
  rw [Nat.zero_add, List.nil_append] at hown2
  replace lz := lz.past (b := cb) hgr2 hcz
  obtain ⟨g, cap, cs, rfl, hgb, hrg, hgc, hgl, hgt, _⟩ := own_rowK hown2 hpos
  have vg := hrg.var
  have hbu := own_ne hown2 (b := bs3) (.inl (by omega))
  refine s_field 2 rfl rfl rfl rfl rfl ?_
  refine s_store rfl rfl rfl rfl rfl rfl rfl (fun wq sq vq => ?_)
  have hvu := ents_ownI (own_sto hown2 sq hbu) hints
  replace lz := lz.sto sq kz3
  replace vg := vg.sto sq (by omega)
  refine vOrd_nil ?_
  refine Wp.seq ?_
  have qg := vg.lt
  have hz1 := lz.size
  refine Wp.region [0, 1, 2, 3, 4, 5, 6] (by kernel_rfl) (by kernel_rfl) ?_
  refine s_load rfl rfl rfl rfl rfl rfl rfl ?_
  refine s_callT rfl rfl rfl (by kernel_rfl) rfl (new_yes t hb hu he hvu) ?_
  rintro v w36 ⟨b1, c1, rfl, hc1, hb1, hL⟩ lw36
  replace lz := lz.trans lw36
  try replace hL := hL.later lw36
  try replace vg := vg.later lw36
  try replace hq := hq.later lw36
  refine s_move rfl rfl rfl rfl ?_
  refine s_extract rfl rfl rfl rfl rfl ?_
  refine s_extract rfl rfl rfl rfl rfl ?_
  refine s_assign rfl rfl rfl rfl ?_
  refine s_assign rfl rfl rfl rfl ?_
  refine vOrd_nil ?_
  refine Wp.seq ?_
  refine Wp.seq ?_
  refine Wp.region [0, 1] (by kernel_rfl) (by kernel_rfl) ?_
  refine s_move rfl rfl rfl rfl ?_
  refine f_neq rfl rfl rfl rfl rfl (by omega) ?_
  refine vOrd_nil ?_
  refine Wp.condF rfl rfl ?_
  refine Wp.skip ?_
  refine Wp.seq ?_
  refine Wp.seq ?_
  refine Wp.adopt 1005 vg (by omega) rfl (show AllMem (fun d => d ≠ g) _ from (by repeat (first | exact AllMem.args | exact AllMem.of (by simp only [AllL, and_true]; omega) | refine AllMem.put ?_ | refine AllMem.new ?_ (by omega) | refine AllMem.set ?_ (by omega)))) ?_
  have hbz : w.heap.size ≤ b1 := by omega
  obtain ⟨cs1, hvb⟩ := hL.var
  refine Wp.adopt 1007 hvb hbz rfl (show AllMem (fun d => d ≠ b1) _ from (by repeat (first | exact AllMem.args | exact AllMem.of (by simp only [AllL, and_true]; omega) | refine AllMem.put ?_ | refine AllMem.new ?_ (by omega) | refine AllMem.set ?_ (by omega)))) ?_
  have nLg : b1 ≠ g ∧ c1 ≠ g ∧ (none : Option Nat) ≠ some g := ⟨by omega, by omega, by simp⟩
  refine Wp.region [0] (by kernel_rfl) (by kernel_rfl) ?_
  refine s_assign rfl rfl rfl rfl ?_
  refine vOrd_nil ?_
  refine Wp.block ?_
  refine Wp.loop (fun k st W => ∃ (i : Nat) (p : Int) (cs1 cs2 : List Value), st = St.of [(1, .p 1 bs1 0), (3, .p 3 bs3 0), (4, .v (.pointer (some ⟨b1, 0, none⟩))), (6, .v (.int .i64 p))] [(1, bs1, [.int .i64 t.u, .int .i64 t.e, .slice (some ⟨ab, ao, none⟩) t.es.length c0]), (3, bs3, [.int .i64 t.u, .int .i64 t.e, .slice (some ⟨g, 0, none⟩) t.es.length cap]), (1005, g, cs1), (1007, b1, cs2)] ∧ p = i ∧ i ≤ t.es.length ∧ cs1.length = cap * 2 ∧ Lp W b1 c1 none t 0 ∧ Later w W ∧ k = t.es.length - i) ?_ ?_
  · exact ⟨_, _, (St.of_le' (env := [(1, .p 1 _ 0), (3, .p 3 _ 0), (4, .v _), (6, .v _)]) (mem := [(1, _, [_, _, _]), (3, _, [_, _, _]), (1005, _, _), (1007, _, _)]) ⟨rfl, rfl, rfl, rfl, trivial⟩ ⟨rfl, rfl, rfl, rfl, trivial⟩), 0, _, _, _, rfl, rfl, Nat.zero_le _, hgl, hL, lz, rfl⟩
  · rintro k st w37 ⟨i, p, cs1, cs2, rfl, hp, hil, hcl1, hL, lz, rfl⟩
    refine Wp.seq ?_
    refine Wp.seq ?_
    refine Wp.region [0, 1, 2, 3, 4] (by kernel_rfl) (by kernel_rfl) ?_
    refine s_move rfl rfl rfl rfl ?_
    refine s_field 2 rfl rfl rfl rfl rfl ?_
    refine s_load rfl rfl rfl rfl rfl rfl rfl ?_
    refine x_len rfl rfl rfl rfl rfl ?_
    refine p_lss rfl rfl rfl rfl rfl (fun h27 => ?_) (fun h27 => ?_)
    · refine vOrd_nil ?_
      refine Wp.condT rfl rfl ?_
      refine Wp.skip ?_
      refine Wp.seq ?_
      refine Wp.block ?_
      refine Wp.region [0, 1, 2, 3, 4, 5] (by kernel_rfl) (by kernel_rfl) ?_
      refine s_field 2 rfl rfl rfl rfl rfl ?_
      refine s_load rfl rfl rfl rfl rfl rfl rfl ?_
      refine s_move rfl rfl rfl rfl ?_
      refine s_idx (sz := 2) (i * 2) rfl rfl rfl rfl rfl rfl rfl (by omega) (by omega) (by omega) ?_
      refine s_fieldV (i * 2 + 1) rfl rfl rfl rfl 1 rfl rfl ?_
      refine s_storeR 1005 rfl rfl rfl rfl rfl rfl (write_one rfl rfl rfl (by omega)) (fun wr sr vr => ?_)
      replace hL := hL.sto sr nLg
      replace lz := lz.sto sr (by omega)
      refine vOrd_nil ?_
      refine Wp.region [0, 1, 2] (by kernel_rfl) (by kernel_rfl) ?_
      refine s_move rfl rfl rfl rfl ?_
      refine a_add (-9223372036854775808) 9223372036854775807 (by decide) rfl rfl rfl rfl rfl (by omega) (by omega) ?_
      refine s_assign rfl rfl rfl rfl ?_
      refine vOrd_nil ?_
      exact ⟨_, _, by omega, (St.of_le' (env := [(1, .p 1 _ 0), (3, .p 3 _ 0), (4, .v _), (6, .v _)]) (mem := [(1, _, [_, _, _]), (3, _, [_, _, _]), (1005, _, _), (1007, _, _)]) ⟨rfl, rfl, rfl, rfl, trivial⟩ ⟨rfl, rfl, rfl, rfl, trivial⟩), i + 1, _, _, _, rfl, by omega, by omega, by rw [List.length_set]; exact hcl1, hL, lz, rfl⟩
    · refine vOrd_nil ?_
      refine Wp.condF rfl rfl ?_
      refine Wp.exit ?_
      refine Wp.seq ?_
      refine Wp.var (h := 1) rfl (fun v1 => ?_)
      have q1 := v1.lt
      refine Wp.var (h := 3) rfl (fun v3 => ?_)
      have q3 := v3.lt
      refine Wp.var (h := 1005) rfl (fun v1005 => ?_)
      have q1005 := v1005.lt
      refine Wp.var (h := 1007) rfl (fun v1007 => ?_)
      have q1007 := v1007.lt
      have hz10 := lz.size
      have hLc := hL.ne (Nat.le_refl _)
      have qc1 : c1 < b1 := by omega
      refine Wp.region [0, 1, 2, 3] (by kernel_rfl) (by kernel_rfl) ?_
      refine s_move rfl rfl rfl rfl ?_
      refine s_callT rfl rfl rfl (by kernel_rfl) rfl (table_any hb hL) ?_
      rintro v w43 ⟨qq, rfl, hqq, hq⟩ lw43
      replace lz := lz.trans lw43
      try replace hL := hL.later lw43
      try replace vg := vg.later lw43
      try replace hq := hq.later lw43
      have qql := hq.lt
      refine s_alloc rfl rfl rfl rfl rfl (fun bs7 ws7 ks7 ls7 => ?_)
      have kz7 := Nat.le_trans lz.size ks7
      try have nL7 := hL.ne ks7
      replace lz := lz.trans ls7
      try replace hL := hL.later ls7
      try replace vg := vg.later ls7
      try replace hq := hq.later ls7
      refine s_store rfl rfl rfl rfl rfl rfl rfl (fun w51 sw51 vw51 => ?_)
      replace lz := lz.sto sw51 kz7
      try replace hL := hL.sto sw51 nL7
      try replace vg := vg.sto sw51 (by omega)
      try replace hq := hq.sto sw51 (by omega)
      refine vOrd_nil ?_
      refine Wp.seq ?_
      refine Wp.seq ?_
      refine Wp.adopt 1006 hq (by omega) rfl (show AllMem (fun d => d ≠ qq) _ from (by repeat (first | exact AllMem.args | exact AllMem.of (by simp only [AllL, and_true]; omega) | refine AllMem.put ?_ | refine AllMem.new ?_ (by omega) | refine AllMem.set ?_ (by omega)))) ?_
      have nLq : b1 ≠ qq ∧ c1 ≠ qq ∧ (none : Option Nat) ≠ some qq := ⟨by omega, by omega, by simp⟩
      have hql := entC_len t.es
      refine Wp.region [0] (by kernel_rfl) (by kernel_rfl) ?_
      refine s_assign rfl rfl rfl rfl ?_
      refine vOrd_nil ?_
      refine Wp.block ?_
      refine Wp.loop (fun k st W => ∃ (i : Nat) (p : Int) (cs1 cs2 : List Value), st = St.of [(1, .p 1 bs1 0), (4, .v (.pointer (some ⟨b1, 0, none⟩))), (7, .p 7 bs7 0), (8, .v (.int .i64 p))] [(1, bs1, [.int .i64 t.u, .int .i64 t.e, .slice (some ⟨ab, ao, none⟩) t.es.length c0]), (7, bs7, [.int .i64 t.u, .int .i64 t.e, .slice (some ⟨qq, 0, none⟩) t.es.length t.es.length]), (1006, qq, cs1), (1007, b1, cs2)] ∧ p = i ∧ i ≤ t.es.length ∧ cs1.length = t.es.length * 2 ∧ Lp W b1 c1 none t 0 ∧ Later w W ∧ k = t.es.length - i) ?_ ?_
      · exact ⟨_, _, (St.of_le' (env := [(1, .p 1 _ 0), (4, .v _), (7, .p 7 _ 0), (8, .v _)]) (mem := [(1, _, [_, _, _]), (7, _, [_, _, _]), (1006, _, _), (1007, _, _)]) ⟨rfl, rfl, rfl, rfl, trivial⟩ ⟨rfl, rfl, rfl, rfl, trivial⟩), 0, _, _, _, rfl, rfl, Nat.zero_le _, hql, hL, lz, rfl⟩
      · rintro k st w52 ⟨i, p, cs1, cs2, rfl, hp, hil, hcl1, hL, lz, rfl⟩
        refine Wp.seq ?_
        refine Wp.seq ?_
        refine Wp.region [0, 1, 2, 3, 4] (by kernel_rfl) (by kernel_rfl) ?_
        refine s_move rfl rfl rfl rfl ?_
        refine s_field 2 rfl rfl rfl rfl rfl ?_
        refine s_load rfl rfl rfl rfl rfl rfl rfl ?_
        refine x_len rfl rfl rfl rfl rfl ?_
        refine p_lss rfl rfl rfl rfl rfl (fun h41 => ?_) (fun h41 => ?_)
        · refine vOrd_nil ?_
          refine Wp.condT rfl rfl ?_
          refine Wp.skip ?_
          refine Wp.seq ?_
          refine Wp.block ?_
          refine Wp.region [0, 1, 2, 3, 4, 5] (by kernel_rfl) (by kernel_rfl) ?_
          refine s_field 2 rfl rfl rfl rfl rfl ?_
          refine s_load rfl rfl rfl rfl rfl rfl rfl ?_
          refine s_move rfl rfl rfl rfl ?_
          refine s_idx (sz := 2) (i * 2) rfl rfl rfl rfl rfl rfl rfl (by omega) (by omega) (by omega) ?_
          refine s_fieldV (i * 2) rfl rfl rfl rfl 0 rfl rfl ?_
          refine s_storeR 1006 rfl rfl rfl rfl rfl rfl (write_one rfl rfl rfl (by omega)) (fun wr sr vr => ?_)
          replace hL := hL.sto sr nLq
          replace lz := lz.sto sr (by omega)
          refine vOrd_nil ?_
          refine Wp.region [0, 1, 2] (by kernel_rfl) (by kernel_rfl) ?_
          refine s_move rfl rfl rfl rfl ?_
          refine a_add (-9223372036854775808) 9223372036854775807 (by decide) rfl rfl rfl rfl rfl (by omega) (by omega) ?_
          refine s_assign rfl rfl rfl rfl ?_
          refine vOrd_nil ?_
          exact ⟨_, _, by omega, (St.of_le' (env := [(1, .p 1 _ 0), (4, .v _), (7, .p 7 _ 0), (8, .v _)]) (mem := [(1, _, [_, _, _]), (7, _, [_, _, _]), (1006, _, _), (1007, _, _)]) ⟨rfl, rfl, rfl, rfl, trivial⟩ ⟨rfl, rfl, rfl, rfl, trivial⟩), i + 1, _, _, _, rfl, by omega, by omega, by rw [List.length_set]; exact hcl1, hL, lz, rfl⟩
        · refine vOrd_nil ?_
          refine Wp.condF rfl rfl ?_
          refine Wp.exit ?_
          refine Wp.seq ?_
          refine Wp.drawnX (by kernel_rfl) (by kernel_rfl) (by kernel_rfl) [] 8 #[false, false, false, false, false, false, false, false] rfl (by kernel_rfl) (by kernel_rfl) (fun wd ld => ?_)
          replace lz := lz.trans ld
          try replace hL := hL.later ld
          try replace vg := vg.later ld
          try replace hq := hq.later ld
          refine vOrd_nil ?_
          refine vTree_one (i := 0) (L := #[true, false, false, false, false, false, false, false]) (by kernel_rfl) (by kernel_rfl) ?_
          refine s_callT rfl rfl rfl (by kernel_rfl) rfl (lpanswers_any) ?_
          rintro v w58 rfl lw58
          replace lz := lz.trans lw58
          try replace hL := hL.later lw58
          try replace vg := vg.later lw58
          try replace hq := hq.later lw58
          refine vOrd_nil ?_
          refine vTree_one (i := 1) (L := #[true, true, false, false, false, false, false, false]) (by kernel_rfl) (by kernel_rfl) ?_
          refine s_move rfl rfl rfl rfl ?_
          refine vOrd_nil ?_
          refine vTree_two (i := 2) (k := 4) (L1 := #[true, true, true, false, false, false, false, false]) (L2 := #[true, true, false, false, true, false, false, false]) (by kernel_rfl) (by kernel_rfl) (by kernel_rfl) ?_ ?_
          · refine s_move rfl rfl rfl rfl ?_
            refine vOrd_nil ?_
            refine vTree_two (i := 3) (k := 4) (L1 := #[true, true, true, true, false, false, false, false]) (L2 := #[true, true, true, false, true, false, false, false]) (by kernel_rfl) (by kernel_rfl) (by kernel_rfl) ?_ ?_
            · refine s_callT rfl rfl rfl (by kernel_rfl) rfl (table_any hb hL) ?_
              rintro v w59 ⟨q2, rfl, _, hq2⟩ lw59
              replace lz := lz.trans lw59
              try replace hL := hL.later lw59
              try replace vg := vg.later lw59
              try replace hq := hq.later lw59
              refine vOrd_nil ?_
              refine vTree_one (i := 4) (L := #[true, true, true, true, true, false, false, false]) (by kernel_rfl) (by kernel_rfl) ?_
              refine s_load rfl rfl rfl rfl rfl rfl rfl ?_
              refine vOrd_nil ?_
              refine vTree_one (i := 5) (L := #[true, true, true, true, true, true, false, false]) (by kernel_rfl) (by kernel_rfl) ?_
              refine s_callT rfl rfl rfl (by kernel_rfl) rfl (tsame_any t hu he (ents_var hq2 hall) (hv.later lz) (by omega)) ?_
              rintro v w60 rfl lw60
              replace lz := lz.trans lw60
              try replace hL := hL.later lw60
              try replace vg := vg.later lw60
              try replace hq := hq.later lw60
              refine vOrd_nil ?_
              refine vTree_one (i := 6) (L := #[true, true, true, true, true, true, true, false]) (by kernel_rfl) (by kernel_rfl) ?_
              refine s_pick rfl rfl rfl rfl rfl ?_
              refine vOrd_nil ?_
              refine vTree_one (i := 7) (L := #[true, true, true, true, true, true, true, true]) (by kernel_rfl) (by kernel_rfl) ?_
              refine s_assign rfl rfl rfl rfl ?_
              refine vOrd_nil ?_
              refine vTree_end (by kernel_rfl) ?_
              refine Wp.ret ⟨.inr rfl, fun lW => ⟨_, res_tmp (P := Try.prog) rfl rfl, _, rfl, ?_, lW⟩⟩
              clear lW
              rfl
            · refine s_load rfl rfl rfl rfl rfl rfl rfl ?_
              refine vOrd_nil ?_
              refine vTree_one (i := 3) (L := #[true, true, true, true, true, false, false, false]) (by kernel_rfl) (by kernel_rfl) ?_
              refine s_callT rfl rfl rfl (by kernel_rfl) rfl (table_any hb hL) ?_
              rintro v w61 ⟨q2, rfl, _, hq2⟩ lw61
              replace lz := lz.trans lw61
              try replace hL := hL.later lw61
              try replace vg := vg.later lw61
              try replace hq := hq.later lw61
              refine vOrd_nil ?_
              refine vTree_one (i := 5) (L := #[true, true, true, true, true, true, false, false]) (by kernel_rfl) (by kernel_rfl) ?_
              refine s_callT rfl rfl rfl (by kernel_rfl) rfl (tsame_any t hu he (ents_var hq2 hall) (hv.later lz) (by omega)) ?_
              rintro v w62 rfl lw62
              replace lz := lz.trans lw62
              try replace hL := hL.later lw62
              try replace vg := vg.later lw62
              try replace hq := hq.later lw62
              refine vOrd_nil ?_
              refine vTree_one (i := 6) (L := #[true, true, true, true, true, true, true, false]) (by kernel_rfl) (by kernel_rfl) ?_
              refine s_pick rfl rfl rfl rfl rfl ?_
              refine vOrd_nil ?_
              refine vTree_one (i := 7) (L := #[true, true, true, true, true, true, true, true]) (by kernel_rfl) (by kernel_rfl) ?_
              refine s_assign rfl rfl rfl rfl ?_
              refine vOrd_nil ?_
              refine vTree_end (by kernel_rfl) ?_
              refine Wp.ret ⟨.inr rfl, fun lW => ⟨_, res_tmp (P := Try.prog) rfl rfl, _, rfl, ?_, lW⟩⟩
              clear lW
              rfl
          · refine s_load rfl rfl rfl rfl rfl rfl rfl ?_
            refine vOrd_nil ?_
            refine vTree_one (i := 2) (L := #[true, true, true, false, true, false, false, false]) (by kernel_rfl) (by kernel_rfl) ?_
            refine s_move rfl rfl rfl rfl ?_
            refine vOrd_nil ?_
            refine vTree_one (i := 3) (L := #[true, true, true, true, true, false, false, false]) (by kernel_rfl) (by kernel_rfl) ?_
            refine s_callT rfl rfl rfl (by kernel_rfl) rfl (table_any hb hL) ?_
            rintro v w63 ⟨q2, rfl, _, hq2⟩ lw63
            replace lz := lz.trans lw63
            try replace hL := hL.later lw63
            try replace vg := vg.later lw63
            try replace hq := hq.later lw63
            refine vOrd_nil ?_
            refine vTree_one (i := 5) (L := #[true, true, true, true, true, true, false, false]) (by kernel_rfl) (by kernel_rfl) ?_
            refine s_callT rfl rfl rfl (by kernel_rfl) rfl (tsame_any t hu he (ents_var hq2 hall) (hv.later lz) (by omega)) ?_
            rintro v w64 rfl lw64
            replace lz := lz.trans lw64
            try replace hL := hL.later lw64
            try replace vg := vg.later lw64
            try replace hq := hq.later lw64
            refine vOrd_nil ?_
            refine vTree_one (i := 6) (L := #[true, true, true, true, true, true, true, false]) (by kernel_rfl) (by kernel_rfl) ?_
            refine s_pick rfl rfl rfl rfl rfl ?_
            refine vOrd_nil ?_
            refine vTree_one (i := 7) (L := #[true, true, true, true, true, true, true, true]) (by kernel_rfl) (by kernel_rfl) ?_
            refine s_assign rfl rfl rfl rfl ?_
            refine vOrd_nil ?_
            refine vTree_end (by kernel_rfl) ?_
            refine Wp.ret ⟨.inr rfl, fun lW => ⟨_, res_tmp (P := Try.prog) rfl rfl, _, rfl, ?_, lW⟩⟩
            clear lW
            rfl
theorem law_own (t : Tb) (hu : I64 t.u) (he : I64 t.e) (hsz : t.es.length * 16 ≤ 140737488351232) {v : Value} {w : World} (hv : EntAt w v t.es) (hf : (t.es = [] ∧ v = .slice none 0 0) ∨ ∃ b off c, v = .slice (some ⟨b, off, none⟩) t.es.length c) : Calls Try.prog 8 #[tbV t v] w fun e w' => ∃ r, e = .returned r ∧ r = .bool true ∧ Below w.heap.size w w' := by
  rcases hf with ⟨h0, rfl⟩ | ⟨b, off, c, rfl⟩
  · exact law_own0 t hu he h0
  · cases hb : canBe t with
    | false => exact law_own1 t hb hu he hsz hv
    | true => exact law_own2 t hb hu he hsz hv

end Go.Proofs.Ytgpnapeobkiekaa
