/-
  Leap seconds: the reference's Day, Offset, Change, Start and At. Of tables that may be.
-/
import Derived.Test.YtnjolcmclcengaaLpB
namespace Go.Proofs.Ytnjolcmclcengaa
open Go.RowKit
set_option maxRecDepth 100000

theorem ent_at {w : World} {a : Option Addr} {c0 : Nat} {es : List Ent} (hv : EntAt w (.slice a es.length c0) es) (h0 : 0 < es.length) : ∃ ab ao, a = some ⟨ab, ao, none⟩ ∧ ∀ j x, es[j]? = some x → w.cell? ⟨ab, ao + j * 2, none⟩ = some (.int .i64 x.1) ∧ w.cell? ⟨ab, ao + j * 2 + 1, none⟩ = some (.int .i64 x.2) := by
  obtain ⟨ab, ao, h, hc⟩ := ent_src hv h0
  refine ⟨ab, ao, h, fun j x hx => ?_⟩
  have hh := entC_at es j x hx
  exact ⟨hc _ _ hh.1, hc _ _ hh.2⟩
theorem off_step {es : List Ent} {K i : Nat} {x : Ent} (h : i < K) (hx : es[i]? = some x) : offA es (min (i + 1) K) = x.2 ∧ decide (0 < min (i + 1) K) = true := by
  rw [Nat.min_eq_left (by omega)]
  exact ⟨(A_at hx).2.2, by simp⟩
theorem more_hit {t : Tb} (hb : canBe t = true) {K i : Nat} {day : Int} (hcut : Cut (pDay day) t.es K) {x y : Ent} (hx : t.es[i]? = some x) (hy : t.es[i + 1]? = some y) (h : dayE y - 1 = day) : moreA t.es K day = y.2 - x.2 := by
  have h1 := hcut.2 i x hx
  have h2 := hcut.2 (i + 1) y hy
  have h3 := (can_less hb (Nat.lt_succ_self i) hx hy).1
  unfold pDay at h1 h2
  rw [decide_eq_decide] at h1 h2
  have e1 : i < K := h1.1 (by omega)
  have e2 : ¬ i + 1 < K := fun q => by have := h2.2 q; omega
  obtain rfl : K = i + 1 := by omega
  unfold moreA untilA chgA untilE chgE
  simp only [hx, hy]
  rw [if_pos (by omega)]
theorem more_none {es : List Ent} {K : Nat} {day : Int} (h : ∀ i y, 0 < i → es[i]? = some y → ¬ dayE y - 1 = day) : moreA es K day = 0 := by
  unfold moreA
  split
  · rename_i hu
    cases K with
    | zero => rfl
    | succ j =>
      simp only [untilA, untilE] at hu
      simp only [chgA, chgE]
      cases hy : es[j + 1]? with
      | none => rfl
      | some y =>
        rw [hy] at hu
        simp only at hu
        exact absurd (show dayE y - 1 = day by omega) (h (j + 1) y (by omega) hy)
  · rfl
theorem rday_any (x : Ent) (h1 : 0 ≤ x.1 ∧ x.1 ≤ 1125899906842624) {w : World} : Calls Try.prog 12 #[.agg #[.int .i64 x.1, .int .i64 x.2]] w fun e w' => ∃ r, e = .returned r ∧ r = .int .i64 (dayE x) ∧ Below w.heap.size w w' := by
  unfold dayE
  refine calls_Wp (args := [_]) (n := 7) Try.func12 rfl rfl (by simp) ?_
  refine Wp.seq ?_
  refine Wp.region [0, 1] (by kernel_rfl) (by kernel_rfl) ?_
  refine s_box rfl rfl rfl rfl rfl rfl (fun bk1 w1 kb1 lw1 => ?_)
  refine s_assign rfl rfl rfl rfl ?_
  refine vOrd_nil ?_
  refine Wp.seq ?_
  refine Wp.region [0, 1, 2, 3, 4] (by kernel_rfl) (by kernel_rfl) ?_
  refine s_field 0 rfl rfl rfl rfl rfl ?_
  refine s_load rfl rfl rfl rfl rfl rfl rfl ?_
  refine a_quo rfl rfl rfl rfl rfl (by omega) (by omega) (by show _ ≤ (9223372036854775807 : Int); omega) ?_
  refine a_add (-9223372036854775808) 9223372036854775807 (by decide) rfl rfl rfl rfl rfl (by omega) (by omega) ?_
  refine s_assign rfl rfl rfl rfl ?_
  refine vOrd_nil ?_
  refine Wp.ret ⟨.inr rfl, fun lW => ⟨_, res_tmp (P := Try.prog) rfl rfl, _, rfl, ?_, lW⟩⟩
  clear lW
  rfl
theorem rchange_any (t : Tb) (hb : canBe t = true) {a : Option Addr} {c0 : Nat} {w : World} (hv : EntAt w (.slice a t.es.length c0) t.es) {day : Int} {K : Nat} (hcut : Cut (pDay day) t.es K) : Calls Try.prog 13 #[tbV t (.slice a t.es.length c0), .int .i64 day] w fun e w' => ∃ r, e = .returned r ∧ r = .int .i64 (moreA t.es K day) ∧ Below w.heap.size w w' := by
  have hn := can_len hb
  have hpos := (can_num hb).2.2
  have hin := fun j e => can_in hb (j := j) (e := e)
  obtain ⟨ab, ao, rfl, hcell⟩ := ent_at hv hpos
  unfold tbV
  refine calls_Wp (args := [_, _]) (n := 36) Try.func13 rfl rfl (by simp) ?_
  refine Wp.seq ?_
  refine Wp.region [0, 1] (by kernel_rfl) (by kernel_rfl) ?_
  refine s_box rfl rfl rfl rfl rfl rfl (fun bk1 w1 kb1 lw1 => ?_)
  refine s_assign rfl rfl rfl rfl ?_
  refine vOrd_nil ?_
  refine Wp.seq ?_
  refine Wp.seq ?_
  refine Wp.region [0] (by kernel_rfl) (by kernel_rfl) ?_
  refine s_assign rfl rfl rfl rfl ?_
  refine vOrd_nil ?_
  refine Wp.block ?_
  refine Wp.loop (fun k st W => ∃ (i : Nat) (p : Int), st = St.of [(1, .v (.int .i64 day)), (2, .p 2 bk1 0), (5, .v (.int .i64 p))] [(2, bk1, [.int .i64 t.u, .int .i64 t.e, .slice (some ⟨ab, ao, none⟩) t.es.length c0])] ∧ p = i ∧ 1 ≤ i ∧ i ≤ t.es.length ∧ (∀ j y, 0 < j → j < i → t.es[j]? = some y → ¬ dayE y - 1 = day) ∧ k = t.es.length - i) ?_ ?_
  · exact ⟨_, _, (St.of_le' (env := [(1, .v _), (2, .p 2 _ 0), (5, .v _)]) (mem := [(2, _, [_, _, _])]) ⟨rfl, rfl, rfl, trivial⟩ ⟨rfl, trivial⟩), 1, _, rfl, rfl, Nat.le_refl _, by omega, fun j y h0 h1 => by omega, rfl⟩
  · rintro k st w2 ⟨i, p, rfl, hp, hi1, hi, hno, rfl⟩
    refine Wp.seq ?_
    refine Wp.seq ?_
    refine Wp.region [0, 1, 2, 3, 4] (by kernel_rfl) (by kernel_rfl) ?_
    refine s_move rfl rfl rfl rfl ?_
    refine s_field 2 rfl rfl rfl rfl rfl ?_
    refine s_load rfl rfl rfl rfl rfl rfl rfl ?_
    refine x_len rfl rfl rfl rfl rfl ?_
    refine p_lss rfl rfl rfl rfl rfl (fun h10 => ?_) (fun h10 => ?_)
    · refine vOrd_nil ?_
      refine Wp.condT rfl rfl ?_
      refine Wp.skip ?_
      refine Wp.seq ?_
      refine Wp.block ?_
      refine Wp.seq ?_
      have hin1 : i < t.es.length := by omega
      obtain ⟨x, hx⟩ : ∃ x, t.es[i]? = some x := ⟨t.es[i], List.getElem?_eq_getElem hin1⟩
      obtain ⟨kx1, kx2⟩ := hcell _ x hx
      have hbx := hin _ x hx
      refine Wp.old (fun lo => ?_)
      refine Wp.region [0, 1, 2, 3, 4, 5, 6, 7, 8] (by kernel_rfl) (by kernel_rfl) ?_
      refine s_field 2 rfl rfl rfl rfl rfl ?_
      refine s_load rfl rfl rfl rfl rfl rfl rfl ?_
      refine s_move rfl rfl rfl rfl ?_
      refine s_idx (sz := 2) (ao + i * 2) rfl rfl rfl rfl rfl rfl rfl (by omega) (by omega) (by omega) ?_
      refine x_ldA [.int .i64 x.1, .int .i64 x.2] rfl rfl rfl rfl rfl rfl (World.block_lt_of_cell? _ _ (cell_later lo kx1)) (fun j u hj => ?_) ?_
      · match j, hj with
        | 0, hj => cases hj; exact cell_later lo kx1
        | 1, hj => cases hj; exact cell_later lo kx2
      refine s_callT rfl rfl rfl (by kernel_rfl) rfl (rday_any x hbx.1) ?_
      rintro v w8 rfl lw8
      refine a_sub (-9223372036854775808) 9223372036854775807 (by decide) rfl rfl rfl rfl rfl (by omega) (by omega) ?_
      refine s_move rfl rfl rfl rfl ?_
      refine p_eql rfl rfl rfl rfl rfl (fun h21 => ?_) (fun h21 => ?_)
      · refine vOrd_nil ?_
        refine Wp.condT rfl rfl ?_
        refine Wp.seq ?_
        obtain ⟨i, rfl⟩ : ∃ j, i = j + 1 := ⟨i - 1, by omega⟩
        have hin2 : i < t.es.length := by omega
        obtain ⟨y, hy⟩ : ∃ x, t.es[i]? = some x := ⟨t.es[i], List.getElem?_eq_getElem hin2⟩
        obtain ⟨ky1, ky2⟩ := hcell _ y hy
        have hby := hin _ y hy
        refine Wp.old (fun lo5 => ?_)
        refine (Wp.drawn (by kernel_rfl) (by kernel_rfl) [0, 1, 2, 3, 4, 5, 6, 7, 8, 9, 10, 11, 12, 13, 14] [8132, 8133, 8131, 8135, 8143, 8159, 831, 895, 0, 0, 0, 0, 0, 0, 0] (by kernel_rfl) (by kernel_rfl) (fun _ _ _ => True) (fun wd ld => ?_))
        refine s_field 2 rfl rfl rfl rfl rfl ?_
        refine s_load rfl rfl rfl rfl rfl rfl rfl ?_
        refine s_move rfl rfl rfl rfl ?_
        refine s_idx (sz := 2) (ao + (i + 1) * 2) rfl rfl rfl rfl rfl rfl rfl (by omega) (by omega) (by omega) ?_
        refine s_fieldV (ao + (i + 1) * 2 + 1) rfl rfl rfl rfl 1 rfl rfl ?_
        refine x_ldc rfl rfl rfl rfl rfl (cell_later (lo5.trans ld) kx2) ?_
        refine s_field 2 rfl rfl rfl rfl rfl ?_
        refine s_load rfl rfl rfl rfl rfl rfl rfl ?_
        refine s_move rfl rfl rfl rfl ?_
        refine a_sub (-9223372036854775808) 9223372036854775807 (by decide) rfl rfl rfl rfl rfl (by omega) (by omega) ?_
        refine s_idx (sz := 2) (ao + i * 2) rfl rfl rfl rfl rfl rfl rfl (by omega) (by omega) (by omega) ?_
        refine s_fieldV (ao + i * 2 + 1) rfl rfl rfl rfl 1 rfl rfl ?_
        refine x_ldc rfl rfl rfl rfl rfl (cell_later (lo5.trans ld) ky2) ?_
        refine a_sub (-9223372036854775808) 9223372036854775807 (by decide) rfl rfl rfl rfl rfl (by omega) (by omega) ?_
        refine s_assign rfl rfl rfl rfl ?_
        refine vOrd_nil ?_
        refine Wp.ret ⟨.inr rfl, fun lW => ⟨_, res_tmp (P := Try.prog) rfl rfl, _, rfl, ?_, lW⟩⟩
        clear lW
        rw [more_hit hb hcut hy hx (by omega)]
      · refine vOrd_nil ?_
        refine Wp.condF rfl rfl ?_
        refine Wp.skip ?_
        refine Wp.region [0, 1, 2] (by kernel_rfl) (by kernel_rfl) ?_
        refine s_move rfl rfl rfl rfl ?_
        refine a_add (-9223372036854775808) 9223372036854775807 (by decide) rfl rfl rfl rfl rfl (by omega) (by omega) ?_
        refine s_assign rfl rfl rfl rfl ?_
        refine vOrd_nil ?_
        exact ⟨_, _, by omega, (St.of_le' (env := [(1, .v _), (2, .p 2 _ 0), (5, .v _)]) (mem := [(2, _, [_, _, _])]) ⟨rfl, rfl, rfl, trivial⟩ ⟨rfl, trivial⟩), i + 1, _, rfl, by omega, by omega, by omega, fun j y h0 h1 hy => by rcases Nat.lt_or_ge j i with z | z; exact hno j y h0 z hy; rw [show j = i by omega, hx] at hy; cases hy; exact h21, rfl⟩
    · refine vOrd_nil ?_
      refine Wp.condF rfl rfl ?_
      refine Wp.exit ?_
      refine Wp.seq ?_
      refine Wp.region [0] (by kernel_rfl) (by kernel_rfl) ?_
      refine s_assign rfl rfl rfl rfl ?_
      refine vOrd_nil ?_
      refine Wp.ret ⟨.inr rfl, fun lW => ⟨_, res_tmp (P := Try.prog) rfl rfl, _, rfl, ?_, lW⟩⟩
      clear lW
      rw [more_none (fun j y h0 hy => hno j y h0 (by have := (List.getElem?_eq_some_iff.1 hy).1; omega) hy)]
end Go.Proofs.Ytnjolcmclcengaa
