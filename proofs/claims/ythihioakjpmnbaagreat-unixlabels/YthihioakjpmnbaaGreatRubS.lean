/-
 The contract of rubber.split: the parts of segments whose numbers are bounded. A range over slices.Backward.
-/
import Derived.Test.YthihioakjpmnbaaGreatRubC
import Derived.Test.YthihioakjpmnbaaGreatRubK
import Derived.Test.YthihioakjpmnbaaGreatVcR
namespace Go.Proofs.YthihioakjpmnbaaGreat
open Go.RowKit
set_option maxRecDepth 100000

/-- The cells of a part. -/
def partL (s : Sg) (la bh bl eh el : Int) : List Value := [.int .i64 s.d, .int .i64 s.b, .int .i64 s.f, .int .i64 s.r, .int .i64 la, .int .i64 bh, .int .u64 bl, .int .i64 eh, .int .u64 el]
/-- In these cells part j is that of s. -/
def PartAt (l : List Sg) (day off : Int) (cs : List Value) (j : Nat) (s : Sg) : Prop := ∃ bh bl eh el, WideIs bh bl (begS s) ∧ WideIs eh el (endS l day off j) ∧ (cs.drop (j * 9)).take 9 = partL s (untS l day j - 1) bh bl eh el
def PartC (l : List Sg) (day off : Int) (cs : List Value) : Prop := cs.length = l.length * 9 ∧ ∀ j s, l[j]? = some s → PartAt l day off cs j s
/-- What is known behind some rounds, whatever has come. -/
def Good (l : List Sg) (day off : Int) (pre : List (SgAt l)) (u x : Int) (cs : List Value) : Prop :=
 cs.length = l.length * 9 ∧ (-1048576 ≤ u ∧ u ≤ 1048576) ∧
 ∀ k, k ≤ l.length → pre.map (·.1.1) = downK l.length k → (k = 0 → u = day ∧ x = cnt day off 0) ∧ (0 < k → ∀ s, l[l.length - k]? = some s → u = s.d ∧ x = begS s) ∧ ∀ j s, l.length - k ≤ j → l[j]? = some s → PartAt l day off cs j s
/-- A part is written. -/
theorem write_part {P : Program} {t : TypeId} {cs : List Value} {j : Nat} {vs : List Value} (hi : (P.info? t).map (·.size) = some 9) (hv : vs.length = 9) (ho : vs.all (·.oneCell') = true) (hl : j * 9 + 9 ≤ cs.length) : writeOf P t cs (j * 9) (.agg vs.toArray) = some (cs.take (j * 9) ++ vs ++ cs.drop (j * 9 + 9)) := by
 unfold writeOf
 cases hp : P.info? t with
 | none => rw [hp] at hi; cases hi
 | some i =>
  rw [hp, Option.map_some, Option.some.injEq] at hi
  have e : (Value.agg vs.toArray).cells.toList = vs := by simp [Value.cells]
  have e2 : (Value.agg vs.toArray).cells.size = 9 := by rw [← Array.length_toList, e, hv]
  simp only
  rw [if_pos ⟨by rw [e2, hi], by omega, by rw [e]; exact ho⟩, e, hi]
  split
  ·rename_i h
   rw [h.1, List.take_zero, List.drop_of_length_le (by omega), List.nil_append, List.append_nil]
  ·rfl
theorem part_here {cs vs : List Value} {j : Nat} (hv : vs.length = 9) (hl : j * 9 + 9 ≤ cs.length) : ((cs.take (j * 9) ++ vs ++ cs.drop (j * 9 + 9)).drop (j * 9)).take 9 = vs := by
 rw [List.append_assoc, List.drop_append_of_le_length (by simp; omega), List.drop_of_length_le (by simp; omega), List.nil_append, List.take_append_of_le_length (by omega), List.take_of_length_le (by omega)]
theorem part_away {cs vs : List Value} {i j : Nat} (hv : vs.length = 9) (hl : i * 9 + 9 ≤ cs.length) (hj : j ≠ i) : ((cs.take (i * 9) ++ vs ++ cs.drop (i * 9 + 9)).drop (j * 9)).take 9 = (cs.drop (j * 9)).take 9 := by
 apply List.ext_getElem?
 intro k
 rw [List.getElem?_take, List.getElem?_take]
 split
 ·rename_i hk
  rw [List.getElem?_drop, List.getElem?_drop]
  rcases (by omega : j < i ∨ i < j) with q | q
  ·rw [List.append_assoc, List.getElem?_append_left (by simp; omega), List.getElem?_take_of_lt (by omega)]
  ·rw [List.getElem?_append_right (by simp; omega), List.getElem?_drop]
   congr 1
   simp
   omega
 ·rfl
theorem part_len {cs vs : List Value} {i : Nat} (hv : vs.length = 9) (hl : i * 9 + 9 ≤ cs.length) : (cs.take (i * 9) ++ vs ++ cs.drop (i * 9 + 9)).length = cs.length := by simp; omega
theorem good_first {l : List Sg} {day off : Int} {cs : List Value} (hc : cs.length = l.length * 9) (hd : -1048576 ≤ day ∧ day ≤ 1048576) : Good l day off [] day (cnt day off 0) cs := by
 refine ⟨hc, hd, fun k hk hp => ?_⟩
 have h0 : k = 0 := by have := congrArg List.length hp; rw [downK_len] at this; simpa using this.symm
 subst h0
 exact ⟨fun _ => ⟨rfl, rfl⟩, fun h => absurd h (by omega), fun j s hj hs => by have := (List.getElem?_eq_some_iff.1 hs).1; omega⟩
theorem good_next {l : List Sg} {day off : Int} {pre : List (SgAt l)} {u x : Int} {cs : List Value} (h : Good l day off pre u x cs) {i : Nat} {s : Sg} (hs : l[i]? = some s) (hin : sgIn s = true) {bh bl eh el : Int} (kb : WideIs bh bl (begS s)) (ke : WideIs eh el x) :
  Good l day off (pre ++ [⟨(i, s), hs⟩]) s.d (begS s) (cs.take (i * 9) ++ partL s (u - 1) bh bl eh el ++ cs.drop (i * 9 + 9)) := by
 obtain ⟨h1, h2, h3⟩ := h
 have hi := (List.getElem?_eq_some_iff.1 hs).1
 have hfit : i * 9 + 9 ≤ cs.length := by omega
 have hd := (sgIn_iff.1 hin).1
 refine ⟨by rw [part_len rfl hfit, h1], hd, fun k hk hp => ?_⟩
 rw [List.map_append] at hp
 have hlen := congrArg List.length hp
 rw [List.length_append, downK_len] at hlen
 obtain ⟨m, rfl⟩ : ∃ m, k = m + 1 := ⟨k - 1, by simp at hlen; omega⟩
 rw [downK_succ] at hp
 obtain ⟨hp1, hp2⟩ := List.append_inj' hp rfl
 have him : i = l.length - 1 - m := by simpa using hp2
 obtain ⟨g1, g2, g3⟩ := h3 m (by omega) hp1
 have key : u = untS l day i ∧ x = endS l day off i := by
  rcases Nat.eq_zero_or_pos m with q | q
  ·subst q
   obtain ⟨e1, e2⟩ := g1 rfl
   exact ⟨by rw [unt_none (by omega), e1], by rw [end_none (by omega), e2]⟩
  ·obtain ⟨y, hy⟩ : ∃ y, l[l.length - m]? = some y := ⟨_, List.getElem?_eq_getElem (by omega)⟩
   obtain ⟨e1, e2⟩ := g2 q y hy
   rw [show l.length - m = i + 1 by omega] at hy
   exact ⟨by rw [unt_some hy, e1], by rw [end_some hy, e2]⟩
 refine ⟨fun q => absurd q (by omega), fun _ y hy => ?_, fun j y hj hy => ?_⟩
 ·rw [show l.length - (m + 1) = i by omega, hs] at hy
  cases hy
  exact ⟨rfl, rfl⟩
 ·rcases (by omega : j = i ∨ i < j) with q | q
  ·subst q
   rw [hs] at hy
   cases hy
   exact ⟨bh, bl, eh, el, kb, by rw [← key.2]; exact ke, by rw [part_here rfl hfit, key.1]⟩
  ·obtain ⟨a1, a2, a3, a4, k1, k2, k3⟩ := g3 j y (by omega) hy
   exact ⟨a1, a2, a3, a4, k1, k2, by rw [part_away rfl hfit (by omega), k3]⟩
theorem good_all {l : List Sg} {day off : Int} {pre : List (SgAt l)} {u x : Int} {cs : List Value} (h : Good l day off pre u x cs) (hp : pre.map (·.1.1) = downK l.length l.length) : PartC l day off cs :=
 ⟨h.1, fun j s hs => (h.2.2 l.length (Nat.le_refl _) hp).2.2 j s (by omega) hs⟩
theorem bmade_row {w : World} {c : Nat} {e : TypeId} {z : Array Value} {k : Nat} (h : RowIs w c e (madeCells z k).toList) : ∃ cs, Var w c cs ∧ cs.length = k := ⟨_, h.var, by simp [madeCells]⟩

theorem bback_any {w : World} (a : Option Addr) (n c : Nat) : Calls Tryz.prog 94 #[.slice a n c] w fun e w' => ∃ r, e = .returned r ∧ (∃ q, r = .func (.func 120) #[] #[.pointer (some ⟨q, 0, none⟩)] ∧ w.heap.size ≤ q ∧ Var w' q [.slice a n c]) ∧ Below w.heap.size w w' := by
 refine calls_Wp (args := [_]) (n := 4) Tryz.func94 rfl rfl (by simp) ?_
 refine Wp.seq ?_
 refine wR [0, 1] ?_
 refine sE (fun bk1 w1 kb1 lw1 => ?_)
 refine sZ 1 ?_
 refine Wp.seq ?_
 refine Wp.var (h := 1) rfl (fun v1 => ?_)
 have q1 := v1.lt
 refine wR [0, 1] ?_
 refine s_mkfun rfl rfl rfl rfl ?_
 refine sZ 1 ?_
 refine Wp.ret ⟨.inr rfl, fun lW => ⟨_, res_tmp (P := Tryz.prog) rfl rfl, _, rfl, ?_, lW⟩⟩
 clear lW
 exact ⟨_, rfl, by omega, v1.later (Later.refl _)⟩
theorem bsplit_any {l : List Sg} {day off : Int} (hb : may0 l day off = true ∧ ∀ i, i < l.length → may1 l day i = true) {v : Value} {w : World} (hv : SegAt w v l) : Calls Tryz.prog 60 #[v, .int .i64 day, .int .i64 off] w fun e w' => ∃ r, e = .returned r ∧ (∃ c, r = .slice (some ⟨c, 0, none⟩) l.length l.length ∧ w.heap.size ≤ c ∧ ∃ cs, Var w' c cs ∧ PartC l day off cs) ∧ Below w.heap.size w w' := by
 have hm0 := may0_iff.1 hb.1
 have hmem : ∀ (i : Nat) (s : Sg), l[i]? = some s → sgIn s = true := fun i s hs => (may1_at hb.2 hs).1
 obtain ⟨a, c0, rfl⟩ := hv.form
 obtain ⟨ab, ao, rfl, hcell⟩ := seg_at hv (by omega)
 have habw : ab < w.heap.size := by
  obtain ⟨x, hx⟩ : ∃ x, l[0]? = some x := ⟨_, List.getElem?_eq_getElem (by omega)⟩
  exact World.block_lt_of_cell? w _ (hcell 0 x hx).1
 have c1 := cnt_day day
 have c2 : cnt day 0 0 + off * 1000000000000000000 = cnt day off 0 := by unfold cnt; omega
 obtain ⟨f1, f2⟩ := fit_ok (z := off * 1000000000000000000) (by omega) (by omega)
 have hps := psum_two (x := cnt day 0 0) (y := off * 1000000000000000000) (by omega) (by omega)
 refine calls_WpQ (args := [_, _, _]) (n := 52) Tryz.func60 rfl rfl (by simp) 4 ?_
 refine WpQ.seq ?_
 refine wR [0, 1] ?_
 refine sE (fun bk1 w1 kb1 lw1 => ?_)
 refine sZ 1 ?_
 refine WpQ.seq ?_
 refine Wp.var (h := 4) rfl (fun v4 => ?_)
 have q4 := v4.lt
 refine Wp.old (fun lo => ?_)
 have hsz0 := lo.size
 refine wQ 1 ?_
 refine x_len rfl rfl rfl rfl rfl ?_
 refine s_make (k1 := .i64) (k2 := .i64) (n := l.length) (e := 127) rfl rfl rfl rfl rfl rfl rfl rfl (by show (72 : Int) * _ ≤ _; omega) (by omega) ?_
 intro cm wm hcm lm hrow
 obtain ⟨z, vz, hzl⟩ := bmade_row hrow
 replace hzl : z.length = l.length * 9 := hzl
 clear hrow
 refine sO (fun bk7 w7 kb7 lw7 => ?_)
 refine sS (fun w8 sw8 vw8 => ?_)
 refine vOrd_nil ?_
 refine WpQ.seq ?_
 have hcz := vz.lt
 refine Wp.adopt 1007 ((vz.later lw7).sto sw8 (Nat.ne_of_lt (Nat.lt_of_lt_of_le vz.lt kb7))) (by omega) rfl (show AllMem (fun d => d ≠ cm) _ from (by repeat (first | exact AllMem.args | exact AllMem.of (by simp only [AllL, and_true]; omega) | refine AllMem.put ?_ | refine AllMem.new ?_ (by omega) | refine AllMem.set ?_ (by omega)))) ?_
 refine wQ 1 ?_
 refine s_callT rfl rfl rfl (by kernel_rfl) rfl (c_wof off (by omega) (by omega) _) ?_
 rintro v w9 k1 lw9
 refine s_callT rfl rfl rfl (by kernel_rfl) rfl (c_wof 1000000000000000000 (by omega) (by omega) _) ?_
 rintro v w10 k2 lw10
 refine sT (c_wmul k1 k2 _) ?_
 rintro v w11 ⟨mu, rfl, mh, ml, rfl, k3⟩ lw11
 rw [f1] at k3
 refine sQ 3 ?_
 refine sO (fun bk12 w12 kb12 lw12 => ?_)
 refine sS (fun w13 sw13 vw13 => ?_)
 refine sZ 1 ?_
 refine WpQ.seq ?_
 refine wD [0, 2, 1, 3, 4, 5] [4, 3, 0, 0, 0, 0] (fun | 1 => fun v _ => IsW (cnt day 0 0) v | 3 => fun v w => WsAt w v [cnt day 0 0, off * 1000000000000000000] | 4 => fun v _ => IsW (psum [cnt day 0 0, off * 1000000000000000000] [cnt day 0 0, off * 1000000000000000000].length) v | _ => fun _ _ => True) (fun wd ld => ?_)
 refine sQ 2 ?_
 refine s_callD rfl rfl rfl (by kernel_rfl) rfl (fun wc lc => bbeg_any (n := day) (by omega)) ?_
 rintro v w14 u14 ⟨dh, dl, rfl, k4⟩ lw14 mw14
 refine s_bsD (e := 26) (cs := [.int .i64 dh, .int .u64 dl, .int .i64 mh, .int .u64 ml]) rfl rfl rfl (fun _ => by kernel_rfl) (fun c w' _ hr => ws_two hr k4 k3) ?_
 rintro v wq uq hq2 lwq mwq
 replace hq2 := hq2.later mwq
 refine s_callD rfl rfl rfl (by kernel_rfl) rfl (fun wc lc => bplus_any (hq2.later lc) (by show 2 ≤ 100; omega) hps) ?_
 rintro v w18 u18 ⟨eh0, el0, rfl, k5⟩ lw18 mw18
 rw [psum_2, c2] at k5
 refine sS (fun w19 sw19 vw19 => ?_)
 refine vOrd_nil ?_
 refine WpQ.nest ?_
 refine WpQ.seq ?_
 refine Wp.var (h := 4) rfl (fun v4 => ?_)
 have q4 := v4.lt
 refine Wp.var (h := 7) rfl (fun v7 => ?_)
 have q7 := v7.lt
 refine Wp.var (h := 8) rfl (fun v8 => ?_)
 have q8 := v8.lt
 refine Wp.var (h := 1007) rfl (fun v1007 => ?_)
 have q1007 := v1007.lt
 refine wQ 1 ?_
 refine sT (bback_any _ _ _) ?_
 rintro v w20 ⟨q0, rfl, hq0, vq⟩ lw20
 refine vOrd_nil ?_
 refine WpQ.block ?_
 refine WpQ.old (fun lo => ?_)
 have hszL := lo.size
 intro a H
 obtain ⟨w1, hw1⟩ : ∃ w1, w1 = w20 := ⟨_, rfl⟩
 rw [← hw1] at H vq lo hszL ⊢
 have V4 : Var w1 bk1 [.int .i64 day] := H.mem 4 _ _ rfl
 have V7 : Var w1 bk7 [.slice (some ⟨cm, 0, none⟩) l.length l.length] := H.mem 7 _ _ rfl
 have V8 : Var w1 bk12 [.int .i64 eh0, .int .u64 el0] := H.mem 8 _ _ rfl
 have V9 : Var w1 cm z := H.mem 1007 _ _ rfl
 have o4 : w.heap.size ≤ bk1 := (H.own 4 _ _ rfl).resolve_right (fun q => by cases q.1)
 have o7 : w.heap.size ≤ bk7 := (H.own 7 _ _ rfl).resolve_right (fun q => by cases q.1)
 have o8 : w.heap.size ≤ bk12 := (H.own 8 _ _ rfl).resolve_right (fun q => by cases q.1)
 have o9 : w.heap.size ≤ cm := (H.own 1007 _ _ rfl).resolve_right (fun q => by cases q.1)
 have n47 : bk1 ≠ bk7 := H.inj 4 _ _ 7 _ _ rfl rfl (by decide)
 have n48 : bk1 ≠ bk12 := H.inj 4 _ _ 8 _ _ rfl rfl (by decide)
 have n49 : bk1 ≠ cm := H.inj 4 _ _ 1007 _ _ rfl rfl (by decide)
 have n78 : bk7 ≠ bk12 := H.inj 7 _ _ 8 _ _ rfl rfl (by decide)
 have n79 : bk7 ≠ cm := H.inj 7 _ _ 1007 _ _ rfl rfl (by decide)
 have n89 : bk12 ≠ cm := H.inj 8 _ _ 1007 _ _ rfl rfl (by decide)
 have t4 : a.tmps[4]? = some (.pointer (some ⟨bk1, 0, none⟩) : Value) := H.env 4 _ rfl
 have t7 : a.tmps[7]? = some (.pointer (some ⟨bk7, 0, none⟩) : Value) := H.env 7 _ rfl
 have t8 : a.tmps[8]? = some (.pointer (some ⟨bk12, 0, none⟩) : Value) := H.env 8 _ rfl
 have t29 : a.tmps[29]? = some (.func (.func 120) #[] #[.pointer (some ⟨q0, 0, none⟩)]) := H.env 29 _ rfl
 have hn : a.tmps.size = 52 := H.size
 have hdf := H.defers
 clear H
 have l4 := V4.lt
 have l7 := V7.lt
 have l8 := V8.lt
 have l9 := V9.lt
 have lq := vq.lt
 obtain ⟨B4, hB4⟩ : ∃ b, b = bk1 := ⟨_, rfl⟩
 obtain ⟨B7, hB7⟩ : ∃ b, b = bk7 := ⟨_, rfl⟩
 obtain ⟨B8, hB8⟩ : ∃ b, b = bk12 := ⟨_, rfl⟩
 rw [← hB4] at V4 o4 n47 n48 n49 t4 l4 q4
 rw [← hB7] at V7 o7 n47 n78 n79 t7 l7 q7
 rw [← hB8] at V8 o8 n48 n78 n89 t8 l8 q8
 clear hB4 hB7 hB8
 refine (wpIn_wide (n := 4)).1 (wpIn_rangeFunc_ownH (F := Fence.wide) (α := SgAt l) (gf := 120) (lb := #[.pointer (some ⟨q0, 0, none⟩)]) rfl (by decide) (by simp [Act.eval, t29]) trivial (enters_of Tryz.func120 (by kernel_rfl) rfl)
  (bw_stops (n := 3) (D := w1.heap.size) (bs := [B4, B7, B8, cm]) (by decide) (by omega) lq (by simp only [List.mem_cons, List.not_mem_nil, or_false]; omega) (b := ab) (off := ao) (cap := c0) (by omega) (by simp only [List.mem_cons, List.not_mem_nil, or_false]; omega) ((cell_var vq 0).trans rfl) (fun j x hx => ⟨cell_later lo (hcell j x hx).1, cell_later lo (hcell j x hx).2.1, cell_later lo (hcell j x hx).2.2.1, cell_later lo (hcell j x hx).2.2.2⟩))
  (fun h k => KeepsBut.trans h k) (fun W l o o' hl _ _ _ => KeepsBut.obj W l o' hl) (Below.refl _ _) (fun _ => rfl)
  (fun pre W => ∃ (u x h o : Int) (cs : List Value), Var W B4 [.int .i64 u] ∧ Var W B7 [.slice (some ⟨cm, 0, none⟩) l.length l.length] ∧ Var W B8 [.int .i64 h, .int .u64 o] ∧ Var W cm cs ∧ Grown w1 W [B4, B7, B8, cm] ∧ WideIs h o x ∧ Good l day off pre u x cs)
  (fun _ _ _ => False) ?hI (fun _ _ _ _ _ h _ _ => h.elim) ⟨_, _, _, _, _, V4, V7, V8, V9, Grown.of_later (Later.refl _) _, k5, good_first hzl hm0.2.1⟩
  (fun x a' W => ∃ q, w1.heap.size ≤ q ∧ Var W q [.int .i64 x.1.2.d, .int .i64 x.1.2.b, .int .i64 x.1.2.f, .int .i64 x.1.2.r] ∧ a'.tmps.size = 52 ∧ a'.defers = [] ∧ a'.tmps[4]? = some (.pointer (some ⟨B4, 0, none⟩)) ∧ a'.tmps[7]? = some (.pointer (some ⟨B7, 0, none⟩)) ∧ a'.tmps[8]? = some (.pointer (some ⟨B8, 0, none⟩)) ∧ a'.tmps[10]? = some (.int .i64 (x.1.1 : Int)) ∧ a'.tmps[11]? = some (.pointer (some ⟨q, 0, none⟩)))
  ?hAx ?assign ?body ?done (fun _ _ _ _ _ _ h _ => h.elim))
 case hI =>
  rintro pre W W' row ⟨u, x, h, o, cs, k4, k7, k8, k9, kg, kr⟩ hg hr
  exact ⟨u, x, h, o, cs, k4.other hg (fun r e => (hr r e).2), k7.other hg (fun r e => (hr r e).2), k8.other hg (fun r e => (hr r e).2), k9.other hg (fun r e => (hr r e).2), kg.other hg (fun r e => (hr r e).1), kr⟩
 case hAx =>
  rintro x a' _ W W' row ⟨q, h1, h2, h3⟩ hg hr
  exact ⟨q, h1, h2.other hg (fun r e => (hr r e).2), h3⟩
 case assign =>
  rintro r pre ⟨⟨i, s⟩, hs⟩ W K ⟨u, x, h, o, cs, k4, k7, k8, k9, kg, kr⟩ hK
  have HA : Holds 52 (holO none) W (St.of [(4, .v (.pointer (some ⟨B4, 0, none⟩))), (7, .v (.pointer (some ⟨B7, 0, none⟩))), (8, .v (.pointer (some ⟨B8, 0, none⟩))), (30, .v (.int .i64 (i : Int))), (31, .v (sgV s))] []) { tmps := ((#[30, 31] : Array Tmp).zip #[Value.int .i64 (i : Int), sgV s]).foldl (fun t (p, v) => t.setIfInBounds p v) a.tmps, defers := [] } W := by
   refine Holds.make ?_ rfl ?_ (fun p hp => by cases hp) List.Pairwise.nil
   ·simp [hn]
   ·intro p hp
    simp only [List.mem_cons, List.not_mem_nil, or_false] at hp
    have hx : ∀ j : Nat, j < 30 → ((((#[30, 31] : Array Tmp).zip #[Value.int .i64 (i : Int), sgV s]).foldl (fun t (p, v) => t.setIfInBounds p v) a.tmps) : Array Value)[j]? = a.tmps[j]? := fun j hj => by
     have hf : ((((#[30, 31] : Array Tmp).zip #[Value.int .i64 (i : Int), sgV s]).foldl (fun t (p, v) => t.setIfInBounds p v) a.tmps) : Array Value) = (a.tmps.setIfInBounds 30 (Value.int .i64 (i : Int))).setIfInBounds 31 (sgV s) := by simp
     rw [hf, Array.getElem?_setIfInBounds_ne (by omega), Array.getElem?_setIfInBounds_ne (by omega)]
    rcases hp with rfl | rfl | rfl | rfl | rfl
    ·exact (hx 4 (by decide)).trans t4
    ·exact (hx 7 (by decide)).trans t7
    ·exact (hx 8 (by decide)).trans t8
    ·simp [hn, SV.val]
    ·simp [hn, SV.val]
  refine WpF.out (r := some r) (ds := []) (K := fun e st' W' => e = .normal ∧ ∃ q, st'.mem 11 = some (q, [.int .i64 s.d, .int .i64 s.b, .int .i64 s.f, .int .i64 s.r]) ∧ W.heap.size ≤ q ∧ st'.env 4 = some (.v (.pointer (some ⟨B4, 0, none⟩))) ∧ st'.env 7 = some (.v (.pointer (some ⟨B7, 0, none⟩))) ∧ st'.env 8 = some (.v (.pointer (some ⟨B8, 0, none⟩))) ∧ st'.env 10 = some (.v (.int .i64 (i : Int))) ∧ st'.env 11 = some (.p 11 q 0)) ?_ HA ?_
  ·refine WpF.seq ?_
   refine WpF.region [0] (by kernel_rfl) (by kernel_rfl) ?_
   refine sZ 1 ?_
   refine WpF.region [0, 1] (by kernel_rfl) (by kernel_rfl) ?_
   refine sO (fun bk101 w101 kb101 lw101 => ?_)
   refine sS (fun w102 sw102 vw102 => ?_)
   refine vOrd_nil ?_
   exact ⟨rfl, _, rfl, by omega, rfl, rfl, rfl, rfl, rfl⟩
  ·rintro e a2 st2 W2 H2 ⟨rfl, q, e1, e0, e2, e3, e4, e5, e6⟩
   rw [und_nil H2.defers]
   have lz : Later W W2 := H2.old.later
   have hz := kg.size
   exact hK a2 W2 (H2.old.from _ (fun k hk => by cases hk)) (H2.old.keeps _ (fun k hk => by cases hk)) ⟨u, x, h, o, cs, k4.later lz, k7.later lz, k8.later lz, k9.later lz, kg.join H2.old (fun k hk => by cases hk), kr⟩ ⟨q, by omega, H2.mem _ _ _ e1, H2.size, H2.defers, H2.env _ _ e2, H2.env _ _ e3, H2.env _ _ e4, H2.env _ _ e5, H2.env _ _ e6⟩
 case body =>
  rintro r pre ⟨⟨i, s⟩, hs⟩ a' W hl _ ⟨u, x, h, o, cs, k4, k7, k8, k9, kg, kw, kr⟩ ⟨q, hq, kq, z1, z2, z3, z4, z5, z6, z7⟩ _
  have hin := hmem i s hs
  obtain ⟨⟨i1, i2⟩, ⟨i3, i4⟩, _, _⟩ := sgIn_iff.1 hin
  have hil := (List.getElem?_eq_some_iff.1 hs).1
  have hul := kr.2.1
  have hcl := kr.1
  have ew : ∀ bh bl : Int, writeOf Tryz.prog 127 cs (i * 9) (.agg #[.int .i64 s.d, .int .i64 s.b, .int .i64 s.f, .int .i64 s.r, .int .i64 (u - 1), .int .i64 bh, .int .u64 bl, .int .i64 h, .int .u64 o]) = some (cs.take (i * 9) ++ partL s (u - 1) bh bl h o ++ cs.drop (i * 9 + 9)) := fun bh bl => write_part (vs := partL s (u - 1) bh bl h o) (by kernel_rfl) rfl rfl (by omega)
  have cd := cnt_day s.d
  have HB : Holds 52 [q, B4, B7, B8, cm] W (St.of [(4, .p 804 B4 0), (7, .p 807 B7 0), (8, .p 808 B8 0), (10, .v (.int .i64 (i : Int))), (11, .p 811 q 0)] [(804, B4, [.int .i64 u]), (807, B7, [.slice (some ⟨cm, 0, none⟩) l.length l.length]), (808, B8, [.int .i64 h, .int .u64 o]), (811, q, [.int .i64 s.d, .int .i64 s.b, .int .i64 s.f, .int .i64 s.r]), (850, cm, cs)]) a' W := by
   refine Holds.make z1 z2 ?_ ?_ ?_
   ·intro p hp
    simp only [List.mem_cons, List.not_mem_nil, or_false] at hp
    rcases hp with rfl | rfl | rfl | rfl | rfl <;> assumption
   ·intro p hp
    simp only [List.mem_cons, List.not_mem_nil, or_false] at hp
    rcases hp with rfl | rfl | rfl | rfl | rfl
    ·exact ⟨rfl, by simp, k4⟩
    ·exact ⟨rfl, by simp, k7⟩
    ·exact ⟨rfl, by simp, k8⟩
    ·exact ⟨rfl, by simp, kq⟩
    ·exact ⟨rfl, by simp, k9⟩
   ·simp only [List.pairwise_cons, List.mem_cons, List.not_mem_nil, or_false, forall_eq_or_imp, forall_eq, List.Pairwise.nil, and_true, false_imp_iff, implies_true]
    omega
  rw [← und_nil z2]
  refine WpF.out (r := some r) (ds := []) (K := fun e st' W' => e = .normal ∧ ∃ bh bl, st'.mem 804 = some (B4, [.int .i64 s.d]) ∧ st'.mem 807 = some (B7, [.slice (some ⟨cm, 0, none⟩) l.length l.length]) ∧ st'.mem 808 = some (B8, [.int .i64 bh, .int .u64 bl]) ∧ st'.mem 850 = some (cm, cs.take (i * 9) ++ partL s (u - 1) bh bl h o ++ cs.drop (i * 9 + 9)) ∧ WideIs bh bl (begS s)) ?_ HB ?_
  ·refine WpF.block ?_
   refine WpF.seq ?_
   refine WpF.region [0, 1, 2, 3, 4, 5, 6] (by kernel_rfl) (by kernel_rfl) ?_
   refine sQ 2 ?_
   refine aM (-9223372036854775808) 9223372036854775807 ?_
   refine sL ?_
   refine sB ?_
   refine sO (fun bk101 w101 kb101 lw101 => ?_)
   refine sS (fun w102 sw102 vw102 => ?_)
   refine vOrd_nil ?_
   refine WpF.seq ?_
   refine (WpF.drawn (by kernel_rfl) (by kernel_rfl) [0, 1, 2, 3, 4, 5, 6] [14, 0, 0, 0, 0, 0, 0] (by kernel_rfl) (by kernel_rfl) (fun | 3 => fun v _ => IsW (cnt s.d 0 0) v | 4 => fun v _ => IsW (fZ s (cnt s.d 0 0)) v | _ => fun _ _ => True) (fun _ _ => ?_))
   refine sQ 3 ?_
   refine s_callD rfl rfl rfl (by kernel_rfl) rfl (fun wc lc => bbeg_any (n := s.d) (by omega)) ?_
   rintro v w103 u103 j1 lw103 mw103
   refine s_callD rfl rfl rfl (by kernel_rfl) rfl (fun wc lc => binst_any hin j1 (by omega) (by omega)) ?_
   rintro v w104 u104 ⟨bh, bl, rfl, j2⟩ lw104 mw104
   refine sF 5 ?_
   refine sS (fun w105 sw105 vw105 => ?_)
   refine vOrd_nil ?_
   refine WpF.seq ?_
   refine WpF.region [0, 1, 2, 3, 4] (by kernel_rfl) (by kernel_rfl) ?_
   refine sQ 3 ?_
   refine sI (sz := 9) (i * 9) ?_
   refine s_storeR 850 rfl rfl rfl rfl rfl rfl (ew bh bl) (fun ws9 sws9 vws9 => ?_)
   refine vOrd_nil ?_
   refine (WpF.drawn2 (by kernel_rfl) (by kernel_rfl) [0, 1, 2] [12, 13, 19] [3, 4, 5] [0, 0] [4, 3, 5] [0, 0] (by kernel_rfl) (by kernel_rfl) (fun _ _ _ => True) (fun _ _ => ?_))
   refine sQ 3 ?_
   refine vOrd_nil ⟨?_, ?_⟩
   ·refine sL ?_
    refine sS (fun w108 sw108 vw108 => ?_)
    refine sS (fun w109 sw109 vw109 => ?_)
    refine vOrd_nil ?_
    exact ⟨rfl, bh, bl, rfl, rfl, rfl, rfl, j2⟩
   ·refine sS (fun w110 sw110 vw110 => ?_)
    refine sL ?_
    refine sS (fun w111 sw111 vw111 => ?_)
    refine vOrd_nil ?_
    exact ⟨rfl, bh, bl, rfl, rfl, rfl, rfl, j2⟩
  ·rintro e a2 st2 W2 H2 ⟨rfl, bh, bl, e1, e2, e3, e4, kb⟩
   refine ⟨H2.old.from _ (fun k hk => ?_), H2.old.keeps _ (fun k hk hk2 => ?_), s.d, begS s, bh, bl, _, H2.mem _ _ _ e1, H2.mem _ _ _ e2, H2.mem _ _ _ e3, H2.mem _ _ _ e4, kg.join H2.old (fun k hk hk2 => ?_), kb, good_next kr hs hin kb kw⟩
   ·simp only [List.mem_cons, List.not_mem_nil, or_false] at hk
    rcases hk with rfl | rfl | rfl | rfl | rfl
    ·exact ⟨_, kq⟩
    ·exact ⟨_, k4⟩
    ·exact ⟨_, k7⟩
    ·exact ⟨_, k8⟩
    ·exact ⟨_, k9⟩
   ·simp only [List.mem_cons, List.not_mem_nil, or_false] at hk ⊢
    omega
   ·simp only [List.mem_cons, List.not_mem_nil, or_false] at hk ⊢
    omega
 case done =>
  rintro D ys W hD hS ⟨u, x, h, o, cs, k4, k7, k8, k9, kg, kw, kr⟩ hDef
  have HD : Holds 52 [B7] W (St.of [(7, .p 807 B7 0)] [(807, B7, [.slice (some ⟨cm, 0, none⟩) l.length l.length])]) a W := by
   refine Holds.make hn hdf (fun p hp => ?_) (fun p hp => ?_) (List.pairwise_singleton _ _)
   ·simp only [List.mem_cons, List.not_mem_nil, or_false] at hp
    subst hp
    exact t7
   ·simp only [List.mem_cons, List.not_mem_nil, or_false] at hp
    subst hp
    exact ⟨rfl, by simp, k7⟩
  show Code.wp Tryz.prog _ _ _ W
  refine (wpIn_wide (n := 4)).1 ?_
  rw [und_one hdf]
  refine WpF.out (r := none) (K := fun e st' W' => e = .ret ∧ st'.env 6 = some (.v (.slice (some ⟨cm, 0, none⟩) l.length l.length))) ?_ HD ?_
  ·refine WpF.seq ?_
   refine WpF.region [0, 1] (by kernel_rfl) (by kernel_rfl) ?_
   refine sZ 2 ?_
   exact WpF.ret ⟨rfl, rfl⟩
  ·rintro e a2 st2 W2 H2 ⟨rfl, e1⟩
   have hg2 : Grown w1 W2 [B4, B7, B8, cm] := kg.join H2.old (fun k hk _ => by simp only [List.mem_cons, List.not_mem_nil, or_false] at hk ⊢; omega)
   have hDl := (Array.getElem?_eq_some_iff.1 hDef).1
   have hDf2 : W2.heap[D]? = some (.deferred (some [])) := (H2.old.block D hDl (by simp only [List.mem_cons, List.not_mem_nil, or_false]; omega)).trans hDef
   have k92 : Var W2 cm cs := H2.old.var k9 (by simp only [List.mem_cons, List.not_mem_nil, or_false]; omega)
   have hgp := grownBy_putObj' W2 D (.deferred none)
   refine leave_mark H2 hDf2 ⟨_, e1, rfl⟩ ⟨_, rfl, ⟨cm, rfl, o9, cs, k92.other hgp (fun r e => by cases e; exact ⟨_, hDf2, rfl⟩), good_all kr hS⟩, ?_⟩
   exact Below.trans lo ((hg2.other hgp (fun r e => by cases e; exact hD)).below hszL (fun k hk => by simp only [List.mem_cons, List.not_mem_nil, or_false] at hk; omega))
end Go.Proofs.YthihioakjpmnbaaGreat
