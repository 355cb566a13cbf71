/-
 Leap seconds: the reference's Day, Offset, Change, Start and At. Of tables that may be.
-/
import Derived.Test.YtdpodbfamgafiaaGreatVcR
import Derived.Test.YtdpodbfamgafiaaGreatEntA
import Derived.Test.YtdpodbfamgafiaaGreatLpB
namespace Go.Proofs.YtdpodbfamgafiaaGreat
open Go.RowKit

section
variable {P : Program} {n : Nat} {fn : Func} {w : World}
def St.argsC (b : Nat) (cs : List Value) (args : List Value) : St := ⟨fun s => (args[s]?).map .v, fun h => bif Nat.beq h 899 then some (b, cs) else none⟩
theorem calls_WpC {f : FuncId} {c : Code} {args : List Value} {R : Ending → World → Prop} {b : Nat} {cs : List Value} (hv : Var w b cs) (hf : P.funcs[f]? = some fn) (hb : fn.body = some c) (hn : fn.ntmps = n) (ha : args.length ≤ n)
  (h : Wp P n (holO (some b)) w c (St.argsC b cs args) w (fun e st' w' => (e = .normal ∨ e = .ret) ∧ (InMem st' w' → w.grownBy w' (some b) → ∃ v, Resd P st' fn.results.toList v ∧ R (.returned v) w'))) : Calls P f args.toArray w R := by
 have H0 : Holds n (holO (some b)) w (St.argsC b cs args) { tmps := args.toArray ++ Array.replicate (fn.ntmps - args.toArray.size) undef, defers := [] } w := by
  have key : ∀ h b' cs', (St.argsC b cs args).mem h = some (b', cs') → h = 899 ∧ b' = b ∧ cs' = cs := fun h b' cs' e => by
   simp only [St.argsC] at e
   cases hh : Nat.beq h 899 with
   | false => rw [hh] at e; cases e
   | true =>
    rw [hh] at e
    simp only [cond, Option.some.injEq, Prod.mk.injEq] at e
    exact ⟨Nat.eq_of_beq_eq_true hh, e.1.symm, e.2.symm⟩
  refine ⟨by simp [hn]; omega, rfl, fun s x hs => ?_, fun h b' cs' e => ?_, fun h b' cs' e => ?_, fun h b' cs' h' b'' cs'' e e' hne => ?_, Grown.of_later (Later.refl w) _⟩
  ·simp only [St.argsC, Option.map_eq_some_iff] at hs
   obtain ⟨y, hy, rfl⟩ := hs
   have hlt := (List.getElem?_eq_some_iff.1 hy).1
   simp [Array.getElem?_append, hlt, SV.val, (List.getElem?_eq_some_iff.1 hy).2]
  ·obtain ⟨rfl, rfl, rfl⟩ := key h b' cs' e
   exact hv
  ·obtain ⟨rfl, rfl, rfl⟩ := key h b' cs' e
   exact .inr ⟨rfl, by simp [holO]⟩
  ·exact absurd ((key h b' cs' e).1.trans (key h' b'' cs'' e').1.symm) hne
 refine calls_of_wp hf hb (Code.wp_mono (fun e a' w' q => ?_) (h _ H0))
 obtain ⟨st', H', he, q⟩ := q
 obtain ⟨v, hv', hR⟩ := q H'.mem H'.old.by
 have hr := resd_run H' hv'
 rcases he with rfl | rfl <;> exact ⟨H'.defers, v, hr, hR⟩
end
end Go.Proofs.YtdpodbfamgafiaaGreat

namespace Go.Proofs.YtdpodbfamgafiaaGreat
open Go.RowKit
set_option maxRecDepth 100000

theorem ent_at {w : World} {a : Option Addr} {c0 : Nat} {es : List Ent} (hv : EntAt w (.slice a es.length c0) es) (h0 : 0 < es.length) : ∃ ab ao, a = some ⟨ab, ao, none⟩ ∧ ∀ j x, es[j]? = some x → w.cell? ⟨ab, ao + j * 2, none⟩ = some (.int .i64 x.1) ∧ w.cell? ⟨ab, ao + j * 2 + 1, none⟩ = some (.int .i64 x.2) := by
 obtain ⟨ab, ao, h, hc⟩ := ent_src hv h0
 refine ⟨ab, ao, h, fun j x hx => ?_⟩
 have hh := entC_at es j x hx
 exact ⟨hc _ _ hh.1, hc _ _ hh.2⟩
theorem off_step {es : List Ent} {K i : Nat} {x : Ent} (h : i < K) (hx : es[i]? = some x) : offA es (min (i + 1) K) = x.2 ∧ decide (0 < min (i + 1) K) = true := by
 rw [Nat.min_eq_left (by omega)]
 exact ⟨(A_at hx).2.2, by simp⟩
theorem more_hit {t : Tb} (hb : canBe t = true) {K i : Nat} {day : Int} (hcut : Cut (pDay day) t.es K) {x y : Ent} (hx : t.es[i]? = some x) (hy : t.es[i + 1]? = some y) (h : dayE y - 1 = day) : moreA t.es K day = y.2 - x.2 := by
 have h1 := hcut.2 i x hx
 have h2 := hcut.2 (i + 1) y hy
 have h3 := (can_less hb (Nat.lt_succ_self i) hx hy).1
 unfold pDay at h1 h2
 rw [decide_eq_decide] at h1 h2
 have e1 : i < K := h1.1 (by omega)
 have e2 : ¬ i + 1 < K := fun q => by have := h2.2 q; omega
 obtain rfl : K = i + 1 := by omega
 unfold moreA untilA chgA untilE chgE
 simp only [hx, hy]
 rw [if_pos (by omega)]
theorem more_none {es : List Ent} {K : Nat} {day : Int} (h : ∀ i y, 0 < i → es[i]? = some y → ¬ dayE y - 1 = day) : moreA es K day = 0 := by
 unfold moreA
 split
 ·rename_i hu
  cases K with
  | zero => rfl
  | succ j =>
   simp only [untilA, untilE] at hu
   simp only [chgA, chgE]
   cases hy : es[j + 1]? with
   | none => rfl
   | some y =>
    rw [hy] at hu
    simp only at hu
    exact absurd (show dayE y - 1 = day by omega) (h (j + 1) y (by omega) hy)
 ·rfl
theorem rday_any (x : Ent) (h1 : 0 ≤ x.1 ∧ x.1 ≤ 1125899906842624) {w : World} : Calls Tryz.prog 30 #[.agg #[.int .i64 x.1, .int .i64 x.2]] w fun e w' => ∃ r, e = .returned r ∧ r = .int .i64 (dayE x) ∧ Below w.heap.size w w' := by
 unfold dayE
 refine calls_Wp (args := [_]) (n := 7) Tryz.func30 rfl rfl (by simp) ?_
 refine Wp.seq ?_
 refine wR [0, 1] ?_
 refine sE (fun bk1 w1 kb1 lw1 => ?_)
 refine sZ 1 ?_
 refine qQ 2 ?_
 refine a_quo rfl rfl rfl rfl rfl (by omega) (by omega) (by show _ ≤ (9223372036854775807 : Int); omega) ?_
 refine aP (-9223372036854775808) 9223372036854775807 ?_
 refine sZ 1 ?_
 refine Wp.ret ⟨.inr rfl, fun lW => ⟨_, res_tmp (P := Tryz.prog) rfl rfl, _, rfl, ?_, lW⟩⟩
 clear lW
 rfl
theorem rstart_any (x : Ent) (h1 : 0 ≤ x.1 ∧ x.1 ≤ 1125899906842624) (h2 : 0 ≤ x.2 ∧ x.2 ≤ 1000) {w : World} : Calls Tryz.prog 73 #[.agg #[.int .i64 x.1, .int .i64 x.2]] w fun e w' => ∃ r, e = .returned r ∧ r = .int .i64 (startE x) ∧ Below w.heap.size w w' := by
 have hd : dayE x = 15020 + x.1 / 86400 := rfl
 refine calls_Wp (args := [_]) (n := 9) Tryz.func73 rfl rfl (by simp) ?_
 refine Wp.seq ?_
 refine wR [0, 1] ?_
 refine sE (fun bk1 w1 kb1 lw1 => ?_)
 refine sZ 1 ?_
 refine Wp.seq ?_
 refine wD [0, 3, 4, 1, 2, 5, 6] [24, 7, 15, 0, 0, 0, 0] (fun | 1 => fun v _ => v = .int .i64 (dayE x) | _ => fun _ _ => True) (fun _ _ => ?_)
 refine sQ 3 ?_
 refine sD (fun wc lc => rday_any x h1) ?_
 rintro v w2 u2 rfl lw2 mw2
 refine a_mul (-9223372036854775808) 9223372036854775807 (by decide) rfl rfl rfl rfl rfl (by omega) (by omega) ?_
 refine aP (-9223372036854775808) 9223372036854775807 ?_
 refine sZ 1 ?_
 refine Wp.ret ⟨.inr rfl, fun lW => ⟨_, res_tmp (P := Tryz.prog) rfl rfl, _, rfl, ?_, lW⟩⟩
 clear lW
 rfl
theorem roffset_any (t : Tb) (hb : canBe t = true) {a : Option Addr} {c0 : Nat} {w : World} (hv : EntAt w (.slice a t.es.length c0) t.es) {day : Int} {K : Nat} (hcut : Cut (pDay day) t.es K) : Calls Tryz.prog 59 #[tbV t (.slice a t.es.length c0), .int .i64 day] w fun e w' => ∃ r, e = .returned r ∧ r = .tuple #[.int .i64 (offA t.es K), .bool (decide (0 < K))] ∧ Below w.heap.size w w' := by
 have hn := can_len hb
 have hpos := (can_num hb).2.2
 have hin := fun j e => can_in hb (j := j) (e := e)
 obtain ⟨ab, ao, rfl, hcell⟩ := ent_at hv hpos
 unfold tbV
 refine calls_Wp (args := [_, _]) (n := 32) Tryz.func59 rfl rfl (by simp) ?_
 refine Wp.seq ?_
 refine wR [0, 1, 2] ?_
 refine sE (fun bk1 w1 kb1 lw1 => ?_)
 refine sZ 2 ?_
 refine qZ ?_
 refine Wp.seq ?_
 refine qZ ?_
 refine Wp.block ?_
 refine Wp.loop (fun k st W => ∃ (i : Nat) (p o : Int) (q : Bool), st = St.of [(1, .v (.int .i64 day)), (2, .p 2 bk1 0), (6, .v (.int .i64 o)), (7, .v (.bool q)), (8, .v (.int .i64 p))] [(2, bk1, [.int .i64 t.u, .int .i64 t.e, .slice (some ⟨ab, ao, none⟩) t.es.length c0])] ∧ p = i ∧ i ≤ t.es.length ∧ o = offA t.es (min i K) ∧ q = decide (0 < min i K) ∧ k = t.es.length - i) ?_ ?_
 ·exact ⟨_, _, (St.of_le' (env := [(1, .v _), (2, .p 2 _ 0), (6, .v _), (7, .v _), (8, .v _)]) (mem := [(2, _, [_, _, _])]) ⟨rfl, rfl, rfl, rfl, rfl, trivial⟩ ⟨rfl, trivial⟩), 0, _, _, _, rfl, rfl, Nat.zero_le _, by rw [Nat.zero_min]; rfl, by rw [Nat.zero_min]; rfl, rfl⟩
 ·rintro k st w2 ⟨i, p, o, q, rfl, hp, hi, ho, hq, rfl⟩
  refine Wp.seq ?_
  refine qQ 3 ?_
  refine x_len rfl rfl rfl rfl rfl ?_
  refine p_lss rfl rfl rfl rfl rfl (fun h13 => ?_) (fun h13 => ?_)
  ·refine vOrd_nil ?_
   refine Wp.condT rfl rfl ?_
   refine Wp.skip ?_
   refine Wp.seq ?_
   refine Wp.block ?_
   refine Wp.seq ?_
   have hin1 : i < t.es.length := by omega
   obtain ⟨x, hx⟩ : ∃ x, t.es[i]? = some x := ⟨t.es[i], List.getElem?_eq_getElem hin1⟩
   obtain ⟨kx1, kx2⟩ := hcell _ x hx
   have hbx := hin _ x hx
   refine Wp.old (fun lo => ?_)
   have hpx := hcut.2 i x hx
   unfold pDay at hpx
   refine wQ 3 ?_
   refine sI (sz := 2) (ao + i * 2) ?_
   refine x_ldA [.int .i64 x.1, .int .i64 x.2] rfl rfl rfl rfl rfl rfl (World.block_lt_of_cell? _ _ (cell_later lo kx1)) (fun j u hj => ?_) ?_
   ·match j, hj with
    | 0, hj => cases hj; exact cell_later lo kx1
    | 1, hj => cases hj; exact cell_later lo kx2
   refine sT (rday_any x hbx.1) ?_
   rintro v w8 rfl lw8
   refine sM ?_
   refine p_leq rfl rfl rfl rfl rfl (fun h23 => ?_) (fun h23 => ?_)
   ·have hlt : i < K := by rw [decide_eq_true h23] at hpx; exact of_decide_eq_true hpx.symm
    refine vOrd_nil ?_
    refine Wp.condT rfl rfl ?_
    refine Wp.old (fun lo6 => ?_)
    refine wQ 3 ?_
    refine sI (sz := 2) (ao + i * 2) ?_
    refine s_fieldV (ao + i * 2 + 1) rfl rfl rfl rfl 1 rfl rfl ?_
    refine xC (cell_later lo6 kx2) ?_
    refine sZ 2 ?_
    refine wQ 1 ?_
    refine aP (-9223372036854775808) 9223372036854775807 ?_
    refine sZ 1 ?_
    have hst := off_step (es := t.es) hlt hx
    exact ⟨_, _, by omega, (St.of_le' (env := [(1, .v _), (2, .p 2 _ 0), (6, .v _), (7, .v _), (8, .v _)]) (mem := [(2, _, [_, _, _])]) ⟨rfl, rfl, rfl, rfl, rfl, trivial⟩ ⟨rfl, trivial⟩), i + 1, _, _, _, rfl, by omega, by omega, hst.1.symm, hst.2.symm, rfl⟩
   ·have hge : K ≤ i := by rw [decide_eq_false (by omega)] at hpx; have := of_decide_eq_false hpx.symm; omega
    refine vOrd_nil ?_
    refine Wp.condF rfl rfl ?_
    refine Wp.skip ?_
    refine wQ 1 ?_
    refine aP (-9223372036854775808) 9223372036854775807 ?_
    refine sZ 1 ?_
    exact ⟨_, _, by omega, (St.of_le' (env := [(1, .v _), (2, .p 2 _ 0), (6, .v _), (7, .v _), (8, .v _)]) (mem := [(2, _, [_, _, _])]) ⟨rfl, rfl, rfl, rfl, rfl, trivial⟩ ⟨rfl, trivial⟩), i + 1, _, _, _, rfl, by omega, by omega, by rw [ho, Nat.min_eq_right (by omega), Nat.min_eq_right (by omega)], by rw [hq, Nat.min_eq_right (by omega), Nat.min_eq_right (by omega)], rfl⟩
  ·refine vOrd_nil ?_
   refine Wp.condF rfl rfl ?_
   refine Wp.exit ?_
   refine qZ ?_
   refine Wp.ret ⟨.inr rfl, fun lW => ⟨_, ⟨_, _, res_tmp (P := Tryz.prog) rfl rfl, res_tmp (P := Tryz.prog) rfl rfl, rfl⟩, _, rfl, ?_, lW⟩⟩
   clear lW
   have hK := hcut.1
   rw [ho, hq, Nat.min_eq_right (by omega)]
theorem rchange_any (t : Tb) (hb : canBe t = true) {a : Option Addr} {c0 : Nat} {w : World} (hv : EntAt w (.slice a t.es.length c0) t.es) {day : Int} {K : Nat} (hcut : Cut (pDay day) t.es K) : Calls Tryz.prog 60 #[tbV t (.slice a t.es.length c0), .int .i64 day] w fun e w' => ∃ r, e = .returned r ∧ r = .int .i64 (moreA t.es K day) ∧ Below w.heap.size w w' := by
 have hn := can_len hb
 have hpos := (can_num hb).2.2
 have hin := fun j e => can_in hb (j := j) (e := e)
 obtain ⟨ab, ao, rfl, hcell⟩ := ent_at hv hpos
 unfold tbV
 refine calls_Wp (args := [_, _]) (n := 36) Tryz.func60 rfl rfl (by simp) ?_
 refine Wp.seq ?_
 refine wR [0, 1] ?_
 refine sE (fun bk1 w1 kb1 lw1 => ?_)
 refine sZ 1 ?_
 refine Wp.seq ?_
 refine qZ ?_
 refine Wp.block ?_
 refine Wp.loop (fun k st W => ∃ (i : Nat) (p : Int), st = St.of [(1, .v (.int .i64 day)), (2, .p 2 bk1 0), (5, .v (.int .i64 p))] [(2, bk1, [.int .i64 t.u, .int .i64 t.e, .slice (some ⟨ab, ao, none⟩) t.es.length c0])] ∧ p = i ∧ 1 ≤ i ∧ i ≤ t.es.length ∧ (∀ j y, 0 < j → j < i → t.es[j]? = some y → ¬ dayE y - 1 = day) ∧ k = t.es.length - i) ?_ ?_
 ·exact ⟨_, _, (St.of_le' (env := [(1, .v _), (2, .p 2 _ 0), (5, .v _)]) (mem := [(2, _, [_, _, _])]) ⟨rfl, rfl, rfl, trivial⟩ ⟨rfl, trivial⟩), 1, _, rfl, rfl, Nat.le_refl _, by omega, fun j y h0 h1 => by omega, rfl⟩
 ·rintro k st w2 ⟨i, p, rfl, hp, hi1, hi, hno, rfl⟩
  refine Wp.seq ?_
  refine qQ 3 ?_
  refine x_len rfl rfl rfl rfl rfl ?_
  refine p_lss rfl rfl rfl rfl rfl (fun h10 => ?_) (fun h10 => ?_)
  ·refine vOrd_nil ?_
   refine Wp.condT rfl rfl ?_
   refine Wp.skip ?_
   refine Wp.seq ?_
   refine Wp.block ?_
   refine Wp.seq ?_
   have hin1 : i < t.es.length := by omega
   obtain ⟨x, hx⟩ : ∃ x, t.es[i]? = some x := ⟨t.es[i], List.getElem?_eq_getElem hin1⟩
   obtain ⟨kx1, kx2⟩ := hcell _ x hx
   have hbx := hin _ x hx
   refine Wp.old (fun lo => ?_)
   refine wQ 3 ?_
   refine sI (sz := 2) (ao + i * 2) ?_
   refine x_ldA [.int .i64 x.1, .int .i64 x.2] rfl rfl rfl rfl rfl rfl (World.block_lt_of_cell? _ _ (cell_later lo kx1)) (fun j u hj => ?_) ?_
   ·match j, hj with
    | 0, hj => cases hj; exact cell_later lo kx1
    | 1, hj => cases hj; exact cell_later lo kx2
   refine sT (rday_any x hbx.1) ?_
   rintro v w8 rfl lw8
   refine aM (-9223372036854775808) 9223372036854775807 ?_
   refine sM ?_
   refine p_eql rfl rfl rfl rfl rfl (fun h21 => ?_) (fun h21 => ?_)
   ·refine vOrd_nil ?_
    refine Wp.condT rfl rfl ?_
    refine Wp.seq ?_
    obtain ⟨i, rfl⟩ : ∃ j, i = j + 1 := ⟨i - 1, by omega⟩
    have hin2 : i < t.es.length := by omega
    obtain ⟨y, hy⟩ : ∃ x, t.es[i]? = some x := ⟨t.es[i], List.getElem?_eq_getElem hin2⟩
    obtain ⟨ky1, ky2⟩ := hcell _ y hy
    have hby := hin _ y hy
    refine Wp.old (fun lo5 => ?_)
    refine wD [0, 1, 2, 3, 4, 5, 6, 7, 8, 9, 10, 11, 12, 13, 14] [8132, 8133, 8131, 8135, 8143, 8159, 831, 895, 0, 0, 0, 0, 0, 0, 0] (fun _ _ _ => True) (fun wd ld => ?_)
    refine sQ 3 ?_
    refine sI (sz := 2) (ao + (i + 1) * 2) ?_
    refine s_fieldV (ao + (i + 1) * 2 + 1) rfl rfl rfl rfl 1 rfl rfl ?_
    refine xC (cell_later (lo5.trans ld) kx2) ?_
    refine sQ 3 ?_
    refine aM (-9223372036854775808) 9223372036854775807 ?_
    refine sI (sz := 2) (ao + i * 2) ?_
    refine s_fieldV (ao + i * 2 + 1) rfl rfl rfl rfl 1 rfl rfl ?_
    refine xC (cell_later (lo5.trans ld) ky2) ?_
    refine aM (-9223372036854775808) 9223372036854775807 ?_
    refine sZ 1 ?_
    refine Wp.ret ⟨.inr rfl, fun lW => ⟨_, res_tmp (P := Tryz.prog) rfl rfl, _, rfl, ?_, lW⟩⟩
    clear lW
    rw [more_hit hb hcut hy hx (by omega)]
   ·refine vOrd_nil ?_
    refine Wp.condF rfl rfl ?_
    refine Wp.skip ?_
    refine wQ 1 ?_
    refine aP (-9223372036854775808) 9223372036854775807 ?_
    refine sZ 1 ?_
    exact ⟨_, _, by omega, (St.of_le' (env := [(1, .v _), (2, .p 2 _ 0), (5, .v _)]) (mem := [(2, _, [_, _, _])]) ⟨rfl, rfl, rfl, trivial⟩ ⟨rfl, trivial⟩), i + 1, _, rfl, by omega, by omega, by omega, fun j y h0 h1 hy => by rcases Nat.lt_or_ge j i with z | z; exact hno j y h0 z hy; rw [show j = i by omega, hx] at hy; cases hy; exact h21, rfl⟩
  ·refine vOrd_nil ?_
   refine Wp.condF rfl rfl ?_
   refine Wp.exit ?_
   refine qZ ?_
   refine Wp.ret ⟨.inr rfl, fun lW => ⟨_, res_tmp (P := Tryz.prog) rfl rfl, _, rfl, ?_, lW⟩⟩
   clear lW
   rw [more_none (fun j y h0 hy => hno j y h0 (by have := (List.getElem?_eq_some_iff.1 hy).1; omega) hy)]
end Go.Proofs.YtdpodbfamgafiaaGreat
