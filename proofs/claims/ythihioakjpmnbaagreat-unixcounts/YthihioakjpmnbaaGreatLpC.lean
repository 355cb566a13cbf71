/-
 Leap seconds: split makes the eras of a table's entries. Of tables that may be.
-/
import Derived.Test.YthihioakjpmnbaaGreatLpB
namespace Go.Proofs.YthihioakjpmnbaaGreat
open Go.RowKit
set_option maxRecDepth 100000

theorem take_one {es : List Ent} {x : Ent} {i : Nat} (hi : i = 0) (hx : es[i]? = some x) : es.take (i + 1) = [x] := by
 subst hi
 cases es with
 | nil => simp at hx
 | cons a r => simp at hx ⊢; exact hx
theorem first_step {es : List Ent} {x : Ent} {i : Nat} {xs : List Value} (hi : i = 0) (hx : es[i]? = some x) (h : EraL (es.take i) xs) : EraL (es.take (i + 1)) (xs ++ newV x) := by
 have : xs = [] := List.eq_nil_of_length_eq_zero (by rw [h.1, hi]; simp)
 rw [take_one hi hx, this]
 exact EraL.first x
theorem next_step {es : List Ent} {x a : Ent} {i : Nat} {xs : List Value} (hi : 0 < i) (hx : es[i]? = some x) (ha : es[i - 1]? = some a) (h : EraL (es.take i) xs) :
  EraL (es.take (i + 1)) (((xs.set ((i - 1) * 5 + 3) (.int .i64 (dayE x))).set ((i - 1) * 5 + 4) (.int .i64 (x.2 - a.2))) ++ newV x) := by
 have hlt := (List.getElem?_eq_some_iff.1 hx).1
 rw [takeE_snoc hx]
 exact h.next (by rw [List.length_take]; omega) (by rw [List.getElem?_take_of_lt (by omega)]; exact ha) x
theorem last_off {es : List Ent} {a : Ent} {i : Nat} {xs cs : List Value} (hi : 0 < i) (_ : i ≤ es.length) (ha : es[i - 1]? = some a) (h : EraL (es.take i) xs) (ht : cs.take (i * 5) = xs) : cs[(i - 1) * 5 + 2]? = some (.int .i64 a.2) := by
 have hc := (h.cells (j := i - 1) (e := a) (by rw [List.getElem?_take_of_lt (by omega)]; exact ha)).2.2.1
 subst ht
 rw [List.getElem?_take_of_lt (by omega)] at hc
 exact hc
set_option maxHeartbeats 4000000 in
theorem split_any {t : Tb} {b c : Nat} {k : Int} {w : World} (hb : canBe t = true) (hv : Var w b (leapC t c k 0 1 (.slice none 0 0))) (hE : Var w c (entC t.es)) (hcb : c < b) :
  Calls Tryz.prog 90 #[.pointer (some ⟨b, 0, none⟩)] w fun e w' => ∃ v, e = .returned v ∧ (∃ cs', (v = .tuple #[] ∧ ∃ u r, cs' = leapC t c k 0 1 u ∧ Eras w' b r u t.es ∧ w.heap.size ≤ r) ∧ Var w' b cs') ∧ w.grownBy w' (some b) := by
 have hbw := hv.lt
 have hn := can_len hb
 have hpos := (can_num hb).2.2
 have hin := fun j e => can_in hb (j := j) (e := e)
 obtain ⟨tu, te, es⟩ := t
 simp only at hn hpos hin hE
 unfold leapC at hv
 simp only at hv
 refine calls_WpH (args := []) (n := 66) hv Tryz.func90 rfl rfl (by simp) ?_
 refine qQ 5 ?_
 refine x_len rfl rfl rfl rfl rfl ?_
 refine sZ 1 ?_
 refine Wp.block ?_
 refine Wp.loop (fun m st W => ∃ (i : Nat) (p : Int) (ea : Option Addr) (cr : Nat) (xs : List Value), st = St.of [(0, .p 899 b 0), (10, .v (.slice (some ⟨c, 0, none⟩) es.length es.length)), (11, .v (.int .i64 (es.length : Int))), (12, .v (.int .i64 p))] [(899, b, [.int .i64 tu, .int .i64 te, .slice (some ⟨c, 0, none⟩) es.length es.length, .int .i64 k, .int .u32 0, .int .i32 1, .int .u32 0, .slice ea i cr])] ∧ p = i ∧ i ≤ es.length ∧ W.ownsRow w.heap.size 119 5 (.slice ea i cr) i xs ∧ EraL (es.take i) xs ∧ w.heap.size ≤ W.heap.size ∧ m = es.length - i) ?_ ?_
 ·refine ⟨_, _, (St.of_le' (env := [(0, .p 899 _ 0), (10, .v _), (11, .v _), (12, .v _)]) (mem := [(899, _, [_, _, _, _, _, _, _, _])]) ⟨rfl, rfl, rfl, rfl, trivial⟩ ⟨rfl, trivial⟩), 0, 0, none, 0, [], rfl, rfl, Nat.zero_le _, ⟨rfl, .inl ⟨rfl, rfl⟩⟩, ?_, ?_, rfl⟩
  ·exact EraL.nil
  ·exact Nat.le_refl _
 ·rintro k st w1 ⟨i, p, ea, cr, xs, rfl, hp, hi, hown, hEra, hsz, rfl⟩
  refine Wp.seq ?_
  refine wR [0] ?_
  refine p_lss rfl rfl rfl rfl rfl (fun h13 => ?_) (fun h13 => ?_)
  ·refine vOrd_nil ?_
   refine Wp.seq ?_
   refine Wp.condT rfl rfl ?_
   refine Wp.skip ?_
   refine Wp.seq ?_
   refine Wp.block ?_
   refine Wp.seq ?_
   obtain ⟨x, hx⟩ : ∃ x, es[i]? = some x := ⟨es[i]'(by omega), List.getElem?_eq_getElem _⟩
   have hxi := hin i x hx
   unfold dayE startE dayE at hxi
   refine Wp.oldH (fun lo => ?_)
   have hE1 := hE.grown lo (by simp; omega)
   obtain ⟨k1, k2⟩ := ent_cells hE1 hx
   refine wQ 1 ?_
   refine sI (sz := 2) (i * 2) ?_
   refine x_ldA [.int .i64 x.1, .int .i64 x.2] rfl rfl rfl rfl rfl rfl hE1.lt (fun j u hj => ?_) ?_
   ·match j, hj with
    | 0, hj => cases hj; exact k1
    | 1, hj => cases hj; exact k2
   refine sO (fun bk3 wk3 kb3 lk3 => ?_)
   have hn3 := own_ne hown (.inr kb3)
   replace hown := own_later hown lk3
   replace hsz := Nat.le_trans hsz lk3.size
   refine sA ?_
   refine sS (fun w11 sw11 vw11 => ?_)
   replace hown := own_sto hown sw11 hn3
   replace hsz := Nat.le_trans hsz (Nat.le_of_eq sw11.size.symm)
   refine vOrd_nil ?_
   refine qQ 2 ?_
   refine a_quo rfl rfl rfl rfl rfl (by omega) (by omega) (by show _ ≤ (9223372036854775807 : Int); omega) ?_
   refine aP (-9223372036854775808) 9223372036854775807 ?_
   refine sQ 2 ?_
   refine sB ?_
   refine sO (fun bk4 wk4 kb4 lk4 => ?_)
   have hn4 := own_ne hown (.inr kb4)
   replace hown := own_later hown lk4
   replace hsz := Nat.le_trans hsz lk4.size
   refine sS (fun w16 sw16 vw16 => ?_)
   replace hown := own_sto hown sw16 hn4
   replace hsz := Nat.le_trans hsz (Nat.le_of_eq sw16.size.symm)
   refine vOrd_nil ?_
   refine qQ 2 ?_
   refine a_mul (-9223372036854775808) 9223372036854775807 (by decide) rfl rfl rfl rfl rfl (by omega) (by omega) ?_
   refine sQ 2 ?_
   refine aP (-9223372036854775808) 9223372036854775807 ?_
   refine sF 1 ?_
   refine sS (fun w17 sw17 vw17 => ?_)
   replace hown := own_sto hown sw17 hn4
   replace hsz := Nat.le_trans hsz (Nat.le_of_eq sw17.size.symm)
   refine vOrd_nil ?_
   refine Wp.seq ?_
   refine qQ 1 ?_
   refine p_gtr rfl rfl rfl rfl rfl (fun h32 => ?_) (fun h32 => ?_)
   ·refine vOrd_nil ?_
    refine Wp.condT rfl rfl ?_
    refine Wp.seq ?_
    obtain ⟨g, cap, cs0, hve, hgb, hrow, hic, hcl, hct, hre⟩ := own_rowK hown (by omega)
    cases hve
    obtain ⟨a, ha⟩ : ∃ a, es[i - 1]? = some a := ⟨es[i - 1]'(by omega), List.getElem?_eq_getElem _⟩
    have hai := hin _ a ha
    have hoff := last_off (by omega) hi ha hEra hct
    have n3 : bk3 ≠ g := fun q => hn3 (by rw [q]; rfl)
    have n4 : bk4 ≠ g := fun q => hn4 (by rw [q]; rfl)
    have n9 : b ≠ g := by omega
    have hlen : (i - 1) * 5 + 5 ≤ cs0.length := by rw [hcl]; omega
    refine wQ 5 ?_
    refine aM (-9223372036854775808) 9223372036854775807 ?_
    refine sI (sz := 5) ((i - 1) * 5) ?_
    refine sZ 1 ?_
    refine Wp.adopt 1007 hrow.var hgb rfl (show AllMem (fun d => d ≠ g) _ from (by repeat (first | exact AllMem.of ⟨n9, trivial⟩ | refine AllMem.put ?_ | refine AllMem.new ?_ n3 | refine AllMem.new ?_ n4 | refine AllMem.set ?_ n3 | refine AllMem.set ?_ n4))) ?_
    refine (Wp.drawn2 (by kernel_rfl) (by kernel_rfl) [0, 1, 2, 3, 4, 6, 7, 8, 9, 11, 12] [2046, 16381, 2035, 2039, 15311, 63, 127, 255, 511, 2047, 4095] [5, 10, 13, 14, 15, 16] [15359, 0, 0, 0, 0] [13, 5, 10, 14, 15, 16] [0, 0, 0, 0, 0] (by kernel_rfl) (by kernel_rfl) (fun _ _ _ => True) (fun wd ld => ?_))
    replace hown := own_later hown ld
    replace hsz := Nat.le_trans hsz ld.size
    have hrd := hrow.late ld
    refine sQ 6 ?_
    refine s_nilV rfl rfl rfl rfl ?_
    refine s_fieldV ((i - 1) * 5 + 2) rfl rfl rfl rfl 2 rfl rfl ?_
    refine s_ldU rfl rfl rfl rfl hrd.var ((read_one rfl).trans hoff) ?_
    refine s_nilV rfl rfl rfl rfl ?_
    refine s_fieldV ((i - 1) * 5 + 3) rfl rfl rfl rfl 3 rfl rfl ?_
    refine vOrd_nil ⟨?_, ?_⟩
    ·refine sL ?_
     refine aM (-9223372036854775808) 9223372036854775807 ?_
     refine s_storeR 1007 rfl rfl rfl rfl rfl rfl (write_one rfl rfl rfl (by omega)) (fun w71 s71 v71 => ?_)
     refine s_nilV rfl rfl rfl rfl ?_
     refine s_fieldV ((i - 1) * 5 + 4) rfl rfl rfl rfl 4 rfl rfl ?_
     refine s_storeR 1007 rfl rfl rfl rfl rfl rfl (write_one rfl rfl rfl (by rw [List.length_set]; omega)) (fun w72 s72 v72 => ?_)
     refine vOrd_nil ?_
     refine Wp.var (h := 1007) rfl (fun v7 => ?_)
     have hown7 := hre _ _ (hrd.turn2 s71 s72 v7) (by rw [List.length_set, List.length_set]; exact hcl)
     rw [List.take_set, List.take_set, hct] at hown7
     have hEra2 := next_step (by omega) hx ha hEra
     have hsz7 : w.heap.size ≤ w72.heap.size := by have := ld.size; have := s71.size; have := s72.size; omega
     clear hown hsz
     have hown := hown7
     have hsz := hsz7
     clear hown7 hsz7 v7
     refine Wp.le ?_ (St.of_le' (env := [(0, .p 899 _ 0), (4, .p 4 _ 0), (10, .v _), (11, .v _), (12, .v _)]) (mem := [(899, _, [_, _, _, _, _, _, _, _]), (4, _, [_, _, _, _, _])]) ⟨rfl, rfl, rfl, rfl, rfl, trivial⟩ ⟨rfl, rfl, trivial⟩)
     refine Wp.drawnX (by kernel_rfl) (by kernel_rfl) (by kernel_rfl) [0, 1, 2, 3] 7 #[true, true, true, true, false, false, false, false, false, false, false] rfl (by kernel_rfl) (by kernel_rfl) (fun wd ld => ?_)
     replace hown := own_later hown ld
     replace hsz := Nat.le_trans hsz ld.size
     refine sZ 4 ?_
     refine vTree_two (i := 4) (k := 5) (L1 := #[true, true, true, true, true, false, false, false, false, false, false]) (L2 := #[true, true, true, true, false, true, false, false, false, false, false]) (by kernel_rfl) (by kernel_rfl) (by kernel_rfl) ?_ ?_
     ·refine sZ 1 ?_
      refine vT 5 ?_
      refine sZ 1 ?_
      refine vT 6 ?_
      refine s_bs (e := 119) (cs := newV x) rfl rfl rfl (fun _ => by kernel_rfl) ?_
      intro cbq wbq hcbq lbq hrowq
      replace hown := own_later hown lbq
      replace hsz := Nat.le_trans hsz lbq.size
      refine vOrd_nil ?_
      refine vT 7 ?_
      refine x_append (base := w.heap.size) (sz := 5) (bs := 40) (n := i) (m := 1) rfl rfl rfl rfl rfl rfl rfl rfl rfl rfl rfl (by decide) hown hrowq rfl rfl (by omega) (by omega) hsz (Nat.le_refl _) (by repeat (first | exact AllMem.of ⟨own_ne hown (.inl hbw), hn4, trivial⟩ | exact AllMem.of ⟨own_ne hown (.inl hbw), trivial⟩ | refine AllMem.put ?_ | refine AllMem.new ?_ hn3 | refine AllMem.new ?_ hn4 | refine AllMem.set ?_ hn3 | refine AllMem.set ?_ hn4)) ?_
      intro v2 w2a hown2 hgr2
      replace hsz := Nat.le_trans hsz hgr2.size
      obtain ⟨ea2, ec2, rfl⟩ := own_sliceK hown2
      clear hown
      have hown := hown2
      refine vOrd_nil ?_
      refine vT 8 ?_
      refine sZ 1 ?_
      refine vT 9 ?_
      refine sZ 1 ?_
      refine vT 10 ?_
      refine sS (fun w38 sw38 vw38 => ?_)
      replace hown := own_sto hown sw38 (own_ne hown (.inl hbw))
      replace hsz := Nat.le_trans hsz (Nat.le_of_eq sw38.size.symm)
      refine vOrd_nil ?_
      refine vTree_end (by kernel_rfl) ?_
      refine wR [0, 1] ?_
      refine aP (-9223372036854775808) 9223372036854775807 ?_
      refine sZ 1 ?_
      exact ⟨_, _, by omega, (St.of_le' (env := [(0, .p 899 _ 0), (10, .v _), (11, .v _), (12, .v _)]) (mem := [(899, _, [_, _, _, _, _, _, _, _])]) ⟨rfl, rfl, rfl, rfl, trivial⟩ ⟨rfl, trivial⟩), i + 1, _, ea2, ec2, _, rfl, by omega, by omega, hown, hEra2, hsz, rfl⟩
     ·refine sZ 1 ?_
      refine vTree_two (i := 4) (k := 6) (L1 := #[true, true, true, true, true, true, false, false, false, false, false]) (L2 := #[true, true, true, true, false, true, true, false, false, false, false]) (by kernel_rfl) (by kernel_rfl) (by kernel_rfl) ?_ ?_
      ·refine sZ 1 ?_
       refine vT 6 ?_
       refine s_bs (e := 119) (cs := newV x) rfl rfl rfl (fun _ => by kernel_rfl) ?_
       intro cbq wbq hcbq lbq hrowq
       replace hown := own_later hown lbq
       replace hsz := Nat.le_trans hsz lbq.size
       refine vOrd_nil ?_
       refine vT 7 ?_
       refine x_append (base := w.heap.size) (sz := 5) (bs := 40) (n := i) (m := 1) rfl rfl rfl rfl rfl rfl rfl rfl rfl rfl rfl (by decide) hown hrowq rfl rfl (by omega) (by omega) hsz (Nat.le_refl _) (by repeat (first | exact AllMem.of ⟨own_ne hown (.inl hbw), hn4, trivial⟩ | exact AllMem.of ⟨own_ne hown (.inl hbw), trivial⟩ | refine AllMem.put ?_ | refine AllMem.new ?_ hn3 | refine AllMem.new ?_ hn4 | refine AllMem.set ?_ hn3 | refine AllMem.set ?_ hn4)) ?_
       intro v2 w2a hown2 hgr2
       replace hsz := Nat.le_trans hsz hgr2.size
       obtain ⟨ea2, ec2, rfl⟩ := own_sliceK hown2
       clear hown
       have hown := hown2
       refine vOrd_nil ?_
       refine vT 8 ?_
       refine sZ 1 ?_
       refine vT 9 ?_
       refine sZ 1 ?_
       refine vT 10 ?_
       refine sS (fun w49 sw49 vw49 => ?_)
       replace hown := own_sto hown sw49 (own_ne hown (.inl hbw))
       replace hsz := Nat.le_trans hsz (Nat.le_of_eq sw49.size.symm)
       refine vOrd_nil ?_
       refine vTree_end (by kernel_rfl) ?_
       refine wR [0, 1] ?_
       refine aP (-9223372036854775808) 9223372036854775807 ?_
       refine sZ 1 ?_
       exact ⟨_, _, by omega, (St.of_le' (env := [(0, .p 899 _ 0), (10, .v _), (11, .v _), (12, .v _)]) (mem := [(899, _, [_, _, _, _, _, _, _, _])]) ⟨rfl, rfl, rfl, rfl, trivial⟩ ⟨rfl, trivial⟩), i + 1, _, ea2, ec2, _, rfl, by omega, by omega, hown, hEra2, hsz, rfl⟩
      ·refine s_bs (e := 119) (cs := newV x) rfl rfl rfl (fun _ => by kernel_rfl) ?_
       intro cbq wbq hcbq lbq hrowq
       replace hown := own_later hown lbq
       replace hsz := Nat.le_trans hsz lbq.size
       refine vOrd_nil ?_
       refine vT 4 ?_
       refine sZ 1 ?_
       refine vT 7 ?_
       refine x_append (base := w.heap.size) (sz := 5) (bs := 40) (n := i) (m := 1) rfl rfl rfl rfl rfl rfl rfl rfl rfl rfl rfl (by decide) hown hrowq rfl rfl (by omega) (by omega) hsz (Nat.le_refl _) (by repeat (first | exact AllMem.of ⟨own_ne hown (.inl hbw), hn4, trivial⟩ | exact AllMem.of ⟨own_ne hown (.inl hbw), trivial⟩ | refine AllMem.put ?_ | refine AllMem.new ?_ hn3 | refine AllMem.new ?_ hn4 | refine AllMem.set ?_ hn3 | refine AllMem.set ?_ hn4)) ?_
       intro v2 w2a hown2 hgr2
       replace hsz := Nat.le_trans hsz hgr2.size
       obtain ⟨ea2, ec2, rfl⟩ := own_sliceK hown2
       clear hown
       have hown := hown2
       refine vOrd_nil ?_
       refine vT 8 ?_
       refine sZ 1 ?_
       refine vT 9 ?_
       refine sZ 1 ?_
       refine vT 10 ?_
       refine sS (fun w60 sw60 vw60 => ?_)
       replace hown := own_sto hown sw60 (own_ne hown (.inl hbw))
       replace hsz := Nat.le_trans hsz (Nat.le_of_eq sw60.size.symm)
       refine vOrd_nil ?_
       refine vTree_end (by kernel_rfl) ?_
       refine wR [0, 1] ?_
       refine aP (-9223372036854775808) 9223372036854775807 ?_
       refine sZ 1 ?_
       exact ⟨_, _, by omega, (St.of_le' (env := [(0, .p 899 _ 0), (10, .v _), (11, .v _), (12, .v _)]) (mem := [(899, _, [_, _, _, _, _, _, _, _])]) ⟨rfl, rfl, rfl, rfl, trivial⟩ ⟨rfl, trivial⟩), i + 1, _, ea2, ec2, _, rfl, by omega, by omega, hown, hEra2, hsz, rfl⟩
    ·refine s_storeR 1007 rfl rfl rfl rfl rfl rfl (write_one rfl rfl rfl (by omega)) (fun w71 s71 v71 => ?_)
     refine sL ?_
     refine aM (-9223372036854775808) 9223372036854775807 ?_
     refine s_nilV rfl rfl rfl rfl ?_
     refine s_fieldV ((i - 1) * 5 + 4) rfl rfl rfl rfl 4 rfl rfl ?_
     refine s_storeR 1007 rfl rfl rfl rfl rfl rfl (write_one rfl rfl rfl (by rw [List.length_set]; omega)) (fun w72 s72 v72 => ?_)
     refine vOrd_nil ?_
     refine Wp.var (h := 1007) rfl (fun v7 => ?_)
     have hown7 := hre _ _ (hrd.turn2 s71 s72 v7) (by rw [List.length_set, List.length_set]; exact hcl)
     rw [List.take_set, List.take_set, hct] at hown7
     have hEra2 := next_step (by omega) hx ha hEra
     have hsz7 : w.heap.size ≤ w72.heap.size := by have := ld.size; have := s71.size; have := s72.size; omega
     clear hown hsz
     have hown := hown7
     have hsz := hsz7
     clear hown7 hsz7 v7
     refine Wp.le ?_ (St.of_le' (env := [(0, .p 899 _ 0), (4, .p 4 _ 0), (10, .v _), (11, .v _), (12, .v _)]) (mem := [(899, _, [_, _, _, _, _, _, _, _]), (4, _, [_, _, _, _, _])]) ⟨rfl, rfl, rfl, rfl, rfl, trivial⟩ ⟨rfl, rfl, trivial⟩)
     refine Wp.drawnX (by kernel_rfl) (by kernel_rfl) (by kernel_rfl) [0, 1, 2, 3] 7 #[true, true, true, true, false, false, false, false, false, false, false] rfl (by kernel_rfl) (by kernel_rfl) (fun wd ld => ?_)
     replace hown := own_later hown ld
     replace hsz := Nat.le_trans hsz ld.size
     refine sZ 4 ?_
     refine vTree_two (i := 4) (k := 5) (L1 := #[true, true, true, true, true, false, false, false, false, false, false]) (L2 := #[true, true, true, true, false, true, false, false, false, false, false]) (by kernel_rfl) (by kernel_rfl) (by kernel_rfl) ?_ ?_
     ·refine sZ 1 ?_
      refine vT 5 ?_
      refine sZ 1 ?_
      refine vT 6 ?_
      refine s_bs (e := 119) (cs := newV x) rfl rfl rfl (fun _ => by kernel_rfl) ?_
      intro cbq wbq hcbq lbq hrowq
      replace hown := own_later hown lbq
      replace hsz := Nat.le_trans hsz lbq.size
      refine vOrd_nil ?_
      refine vT 7 ?_
      refine x_append (base := w.heap.size) (sz := 5) (bs := 40) (n := i) (m := 1) rfl rfl rfl rfl rfl rfl rfl rfl rfl rfl rfl (by decide) hown hrowq rfl rfl (by omega) (by omega) hsz (Nat.le_refl _) (by repeat (first | exact AllMem.of ⟨own_ne hown (.inl hbw), hn4, trivial⟩ | exact AllMem.of ⟨own_ne hown (.inl hbw), trivial⟩ | refine AllMem.put ?_ | refine AllMem.new ?_ hn3 | refine AllMem.new ?_ hn4 | refine AllMem.set ?_ hn3 | refine AllMem.set ?_ hn4)) ?_
      intro v2 w2a hown2 hgr2
      replace hsz := Nat.le_trans hsz hgr2.size
      obtain ⟨ea2, ec2, rfl⟩ := own_sliceK hown2
      clear hown
      have hown := hown2
      refine vOrd_nil ?_
      refine vT 8 ?_
      refine sZ 1 ?_
      refine vT 9 ?_
      refine sZ 1 ?_
      refine vT 10 ?_
      refine sS (fun w75 sw75 vw75 => ?_)
      replace hown := own_sto hown sw75 (own_ne hown (.inl hbw))
      replace hsz := Nat.le_trans hsz (Nat.le_of_eq sw75.size.symm)
      refine vOrd_nil ?_
      refine vTree_end (by kernel_rfl) ?_
      refine wR [0, 1] ?_
      refine aP (-9223372036854775808) 9223372036854775807 ?_
      refine sZ 1 ?_
      exact ⟨_, _, by omega, (St.of_le' (env := [(0, .p 899 _ 0), (10, .v _), (11, .v _), (12, .v _)]) (mem := [(899, _, [_, _, _, _, _, _, _, _])]) ⟨rfl, rfl, rfl, rfl, trivial⟩ ⟨rfl, trivial⟩), i + 1, _, ea2, ec2, _, rfl, by omega, by omega, hown, hEra2, hsz, rfl⟩
     ·refine sZ 1 ?_
      refine vTree_two (i := 4) (k := 6) (L1 := #[true, true, true, true, true, true, false, false, false, false, false]) (L2 := #[true, true, true, true, false, true, true, false, false, false, false]) (by kernel_rfl) (by kernel_rfl) (by kernel_rfl) ?_ ?_
      ·refine sZ 1 ?_
       refine vT 6 ?_
       refine s_bs (e := 119) (cs := newV x) rfl rfl rfl (fun _ => by kernel_rfl) ?_
       intro cbq wbq hcbq lbq hrowq
       replace hown := own_later hown lbq
       replace hsz := Nat.le_trans hsz lbq.size
       refine vOrd_nil ?_
       refine vT 7 ?_
       refine x_append (base := w.heap.size) (sz := 5) (bs := 40) (n := i) (m := 1) rfl rfl rfl rfl rfl rfl rfl rfl rfl rfl rfl (by decide) hown hrowq rfl rfl (by omega) (by omega) hsz (Nat.le_refl _) (by repeat (first | exact AllMem.of ⟨own_ne hown (.inl hbw), hn4, trivial⟩ | exact AllMem.of ⟨own_ne hown (.inl hbw), trivial⟩ | refine AllMem.put ?_ | refine AllMem.new ?_ hn3 | refine AllMem.new ?_ hn4 | refine AllMem.set ?_ hn3 | refine AllMem.set ?_ hn4)) ?_
       intro v2 w2a hown2 hgr2
       replace hsz := Nat.le_trans hsz hgr2.size
       obtain ⟨ea2, ec2, rfl⟩ := own_sliceK hown2
       clear hown
       have hown := hown2
       refine vOrd_nil ?_
       refine vT 8 ?_
       refine sZ 1 ?_
       refine vT 9 ?_
       refine sZ 1 ?_
       refine vT 10 ?_
       refine sS (fun w86 sw86 vw86 => ?_)
       replace hown := own_sto hown sw86 (own_ne hown (.inl hbw))
       replace hsz := Nat.le_trans hsz (Nat.le_of_eq sw86.size.symm)
       refine vOrd_nil ?_
       refine vTree_end (by kernel_rfl) ?_
       refine wR [0, 1] ?_
       refine aP (-9223372036854775808) 9223372036854775807 ?_
       refine sZ 1 ?_
       exact ⟨_, _, by omega, (St.of_le' (env := [(0, .p 899 _ 0), (10, .v _), (11, .v _), (12, .v _)]) (mem := [(899, _, [_, _, _, _, _, _, _, _])]) ⟨rfl, rfl, rfl, rfl, trivial⟩ ⟨rfl, trivial⟩), i + 1, _, ea2, ec2, _, rfl, by omega, by omega, hown, hEra2, hsz, rfl⟩
      ·refine s_bs (e := 119) (cs := newV x) rfl rfl rfl (fun _ => by kernel_rfl) ?_
       intro cbq wbq hcbq lbq hrowq
       replace hown := own_later hown lbq
       replace hsz := Nat.le_trans hsz lbq.size
       refine vOrd_nil ?_
       refine vT 4 ?_
       refine sZ 1 ?_
       refine vT 7 ?_
       refine x_append (base := w.heap.size) (sz := 5) (bs := 40) (n := i) (m := 1) rfl rfl rfl rfl rfl rfl rfl rfl rfl rfl rfl (by decide) hown hrowq rfl rfl (by omega) (by omega) hsz (Nat.le_refl _) (by repeat (first | exact AllMem.of ⟨own_ne hown (.inl hbw), hn4, trivial⟩ | exact AllMem.of ⟨own_ne hown (.inl hbw), trivial⟩ | refine AllMem.put ?_ | refine AllMem.new ?_ hn3 | refine AllMem.new ?_ hn4 | refine AllMem.set ?_ hn3 | refine AllMem.set ?_ hn4)) ?_
       intro v2 w2a hown2 hgr2
       replace hsz := Nat.le_trans hsz hgr2.size
       obtain ⟨ea2, ec2, rfl⟩ := own_sliceK hown2
       clear hown
       have hown := hown2
       refine vOrd_nil ?_
       refine vT 8 ?_
       refine sZ 1 ?_
       refine vT 9 ?_
       refine sZ 1 ?_
       refine vT 10 ?_
       refine sS (fun w97 sw97 vw97 => ?_)
       replace hown := own_sto hown sw97 (own_ne hown (.inl hbw))
       replace hsz := Nat.le_trans hsz (Nat.le_of_eq sw97.size.symm)
       refine vOrd_nil ?_
       refine vTree_end (by kernel_rfl) ?_
       refine wR [0, 1] ?_
       refine aP (-9223372036854775808) 9223372036854775807 ?_
       refine sZ 1 ?_
       exact ⟨_, _, by omega, (St.of_le' (env := [(0, .p 899 _ 0), (10, .v _), (11, .v _), (12, .v _)]) (mem := [(899, _, [_, _, _, _, _, _, _, _])]) ⟨rfl, rfl, rfl, rfl, trivial⟩ ⟨rfl, trivial⟩), i + 1, _, ea2, ec2, _, rfl, by omega, by omega, hown, hEra2, hsz, rfl⟩
   ·refine vOrd_nil ?_
    refine Wp.condF rfl rfl ?_
    refine Wp.skip ?_
    have hEra2 := first_step (by omega) hx hEra
    refine Wp.drawnX (by kernel_rfl) (by kernel_rfl) (by kernel_rfl) [0, 1, 2, 3] 7 #[true, true, true, true, false, false, false, false, false, false, false] rfl (by kernel_rfl) (by kernel_rfl) (fun wd ld => ?_)
    replace hown := own_later hown ld
    replace hsz := Nat.le_trans hsz ld.size
    refine sZ 4 ?_
    refine vTree_two (i := 4) (k := 5) (L1 := #[true, true, true, true, true, false, false, false, false, false, false]) (L2 := #[true, true, true, true, false, true, false, false, false, false, false]) (by kernel_rfl) (by kernel_rfl) (by kernel_rfl) ?_ ?_
    ·refine sZ 1 ?_
     refine vT 5 ?_
     refine sZ 1 ?_
     refine vT 6 ?_
     refine s_bs (e := 119) (cs := newV x) rfl rfl rfl (fun _ => by kernel_rfl) ?_
     intro cbq wbq hcbq lbq hrowq
     replace hown := own_later hown lbq
     replace hsz := Nat.le_trans hsz lbq.size
     refine vOrd_nil ?_
     refine vT 7 ?_
     refine x_append (base := w.heap.size) (sz := 5) (bs := 40) (n := i) (m := 1) rfl rfl rfl rfl rfl rfl rfl rfl rfl rfl rfl (by decide) hown hrowq rfl rfl (by omega) (by omega) hsz (Nat.le_refl _) (by repeat (first | exact AllMem.of ⟨own_ne hown (.inl hbw), hn4, trivial⟩ | exact AllMem.of ⟨own_ne hown (.inl hbw), trivial⟩ | refine AllMem.put ?_ | refine AllMem.new ?_ hn3 | refine AllMem.new ?_ hn4 | refine AllMem.set ?_ hn3 | refine AllMem.set ?_ hn4)) ?_
     intro v2 w2a hown2 hgr2
     replace hsz := Nat.le_trans hsz hgr2.size
     obtain ⟨ea2, ec2, rfl⟩ := own_sliceK hown2
     clear hown
     have hown := hown2
     refine vOrd_nil ?_
     refine vT 8 ?_
     refine sZ 1 ?_
     refine vT 9 ?_
     refine sZ 1 ?_
     refine vT 10 ?_
     refine sS (fun w108 sw108 vw108 => ?_)
     replace hown := own_sto hown sw108 (own_ne hown (.inl hbw))
     replace hsz := Nat.le_trans hsz (Nat.le_of_eq sw108.size.symm)
     refine vOrd_nil ?_
     refine vTree_end (by kernel_rfl) ?_
     refine wR [0, 1] ?_
     refine aP (-9223372036854775808) 9223372036854775807 ?_
     refine sZ 1 ?_
     exact ⟨_, _, by omega, (St.of_le' (env := [(0, .p 899 _ 0), (10, .v _), (11, .v _), (12, .v _)]) (mem := [(899, _, [_, _, _, _, _, _, _, _])]) ⟨rfl, rfl, rfl, rfl, trivial⟩ ⟨rfl, trivial⟩), i + 1, _, ea2, ec2, _, rfl, by omega, by omega, hown, hEra2, hsz, rfl⟩
    ·refine sZ 1 ?_
     refine vTree_two (i := 4) (k := 6) (L1 := #[true, true, true, true, true, true, false, false, false, false, false]) (L2 := #[true, true, true, true, false, true, true, false, false, false, false]) (by kernel_rfl) (by kernel_rfl) (by kernel_rfl) ?_ ?_
     ·refine sZ 1 ?_
      refine vT 6 ?_
      refine s_bs (e := 119) (cs := newV x) rfl rfl rfl (fun _ => by kernel_rfl) ?_
      intro cbq wbq hcbq lbq hrowq
      replace hown := own_later hown lbq
      replace hsz := Nat.le_trans hsz lbq.size
      refine vOrd_nil ?_
      refine vT 7 ?_
      refine x_append (base := w.heap.size) (sz := 5) (bs := 40) (n := i) (m := 1) rfl rfl rfl rfl rfl rfl rfl rfl rfl rfl rfl (by decide) hown hrowq rfl rfl (by omega) (by omega) hsz (Nat.le_refl _) (by repeat (first | exact AllMem.of ⟨own_ne hown (.inl hbw), hn4, trivial⟩ | exact AllMem.of ⟨own_ne hown (.inl hbw), trivial⟩ | refine AllMem.put ?_ | refine AllMem.new ?_ hn3 | refine AllMem.new ?_ hn4 | refine AllMem.set ?_ hn3 | refine AllMem.set ?_ hn4)) ?_
      intro v2 w2a hown2 hgr2
      replace hsz := Nat.le_trans hsz hgr2.size
      obtain ⟨ea2, ec2, rfl⟩ := own_sliceK hown2
      clear hown
      have hown := hown2
      refine vOrd_nil ?_
      refine vT 8 ?_
      refine sZ 1 ?_
      refine vT 9 ?_
      refine sZ 1 ?_
      refine vT 10 ?_
      refine sS (fun w119 sw119 vw119 => ?_)
      replace hown := own_sto hown sw119 (own_ne hown (.inl hbw))
      replace hsz := Nat.le_trans hsz (Nat.le_of_eq sw119.size.symm)
      refine vOrd_nil ?_
      refine vTree_end (by kernel_rfl) ?_
      refine wR [0, 1] ?_
      refine aP (-9223372036854775808) 9223372036854775807 ?_
      refine sZ 1 ?_
      exact ⟨_, _, by omega, (St.of_le' (env := [(0, .p 899 _ 0), (10, .v _), (11, .v _), (12, .v _)]) (mem := [(899, _, [_, _, _, _, _, _, _, _])]) ⟨rfl, rfl, rfl, rfl, trivial⟩ ⟨rfl, trivial⟩), i + 1, _, ea2, ec2, _, rfl, by omega, by omega, hown, hEra2, hsz, rfl⟩
     ·refine s_bs (e := 119) (cs := newV x) rfl rfl rfl (fun _ => by kernel_rfl) ?_
      intro cbq wbq hcbq lbq hrowq
      replace hown := own_later hown lbq
      replace hsz := Nat.le_trans hsz lbq.size
      refine vOrd_nil ?_
      refine vT 4 ?_
      refine sZ 1 ?_
      refine vT 7 ?_
      refine x_append (base := w.heap.size) (sz := 5) (bs := 40) (n := i) (m := 1) rfl rfl rfl rfl rfl rfl rfl rfl rfl rfl rfl (by decide) hown hrowq rfl rfl (by omega) (by omega) hsz (Nat.le_refl _) (by repeat (first | exact AllMem.of ⟨own_ne hown (.inl hbw), hn4, trivial⟩ | exact AllMem.of ⟨own_ne hown (.inl hbw), trivial⟩ | refine AllMem.put ?_ | refine AllMem.new ?_ hn3 | refine AllMem.new ?_ hn4 | refine AllMem.set ?_ hn3 | refine AllMem.set ?_ hn4)) ?_
      intro v2 w2a hown2 hgr2
      replace hsz := Nat.le_trans hsz hgr2.size
      obtain ⟨ea2, ec2, rfl⟩ := own_sliceK hown2
      clear hown
      have hown := hown2
      refine vOrd_nil ?_
      refine vT 8 ?_
      refine sZ 1 ?_
      refine vT 9 ?_
      refine sZ 1 ?_
      refine vT 10 ?_
      refine sS (fun w130 sw130 vw130 => ?_)
      replace hown := own_sto hown sw130 (own_ne hown (.inl hbw))
      replace hsz := Nat.le_trans hsz (Nat.le_of_eq sw130.size.symm)
      refine vOrd_nil ?_
      refine vTree_end (by kernel_rfl) ?_
      refine wR [0, 1] ?_
      refine aP (-9223372036854775808) 9223372036854775807 ?_
      refine sZ 1 ?_
      exact ⟨_, _, by omega, (St.of_le' (env := [(0, .p 899 _ 0), (10, .v _), (11, .v _), (12, .v _)]) (mem := [(899, _, [_, _, _, _, _, _, _, _])]) ⟨rfl, rfl, rfl, rfl, trivial⟩ ⟨rfl, trivial⟩), i + 1, _, ea2, ec2, _, rfl, by omega, by omega, hown, hEra2, hsz, rfl⟩
  ·refine vOrd_nil ?_
   refine Wp.seq ?_
   refine Wp.condF rfl rfl ?_
   refine Wp.exit ?_
   refine ⟨.inl rfl, fun mW lW => ⟨_, rfl, _, rfl, ?_, lW⟩⟩
   have hil : i = es.length := by omega
   subst hil
   rw [List.take_length] at hEra
   obtain ⟨g, cap, cs0, hve, hgb, hrow, hic, hcl, hct, hre⟩ := own_rowK hown hpos
   refine ⟨_, ⟨rfl, _, g, rfl, ⟨cap, cs0, hve, by omega, hic, hrow.var, ?_⟩, hgb⟩, mW 899 _ _ rfl⟩
   rw [hct]
   exact hEra
end Go.Proofs.YthihioakjpmnbaaGreat
