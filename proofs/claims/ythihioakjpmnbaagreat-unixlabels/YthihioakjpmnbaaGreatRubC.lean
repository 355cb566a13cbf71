/-
 The contracts of rubber's part.count, part.endsOnLast and bounded. Of numbers that are bounded as the chapter says.
-/
import Derived.Test.YthihioakjpmnbaaGreatRubA
namespace Go.Proofs.YthihioakjpmnbaaGreat
open Go.RowKit
set_option maxRecDepth 100000

theorem psum_two {x y : Int} (h1 : -85070591730234615865843651857942052864 ≤ x ∧ x ≤ 85070591730234615865843651857942052864) (h2 : -85070591730234615865843651857942052864 ≤ y ∧ y < 85070591730234615865843651857942052864) : ∀ k, k ≤ [x, y].length → -170141183460469231731687303715884105728 ≤ psum [x, y] k ∧ psum [x, y] k < 170141183460469231731687303715884105728 := by
 intro k hk
 match k, hk with
 | 0, _ => show _ ≤ (0 : Int) ∧ (0 : Int) < _; omega
 | 1, _ => show _ ≤ (0 : Int) + x ∧ (0 : Int) + x < _; omega
 | 2, _ => show _ ≤ (0 : Int) + x + y ∧ (0 : Int) + x + y < _; omega
theorem psum_2 (x y : Int) : psum [x, y] [x, y].length = x + y := by show (0 : Int) + x + y = x + y; omega

theorem bends_any {s : Sg} (hs : sgIn s = true) {la bh bl eh el x : Int} (hl : -1048577 ≤ la ∧ la ≤ 1048576) (hx : WideIs eh el x) {w : World} : Calls Tryz.prog 63 #[.agg #[.int .i64 s.d, .int .i64 s.b, .int .i64 s.f, .int .i64 s.r, .int .i64 la, .int .i64 bh, .int .u64 bl, .int .i64 eh, .int .u64 el]] w fun e w' => ∃ r, e = .returned r ∧ r = .bool (decide (fZ s (cnt la 0 0) < x) && decide (x ≤ fZ s (cnt (la + 1) 1 0))) ∧ Below w.heap.size w w' := by
 have c1 := cnt_day la
 have c2 := cnt_day (la + 1)
 have c3 : cnt (la + 1) 0 0 + 1000000000000000000 = cnt (la + 1) 1 0 := by unfold cnt; omega
 have hps := psum_two (x := cnt (la + 1) 0 0) (y := 1000000000000000000) (by omega) (by omega)
 refine calls_Wp (args := [_]) (n := 31) Tryz.func63 rfl rfl (by simp) ?_
 refine Wp.seq ?_
 refine wR [0, 1] ?_
 refine sE (fun bk1 w1 kb1 lw1 => ?_)
 refine sZ 1 ?_
 refine Wp.seq ?_
 refine wD [0, 1, 2, 5, 3, 4, 6] [46, 33, 35, 31, 0, 0, 0] (fun | 3 => fun v _ => IsW (cnt la 0 0) v | 4 => fun v _ => IsW (fZ s (cnt la 0 0)) v | _ => fun _ _ => True) (fun _ _ => ?_)
 refine sQ 3 ?_
 refine sO (fun bk2 w2 kb2 lw2 => ?_)
 refine s_callD rfl rfl rfl (by kernel_rfl) rfl (fun wc lc => bbeg_any (n := la) (by omega)) ?_
 rintro v w3 u3 k1 lw3 mw3
 refine s_callD rfl rfl rfl (by kernel_rfl) rfl (fun wc lc => binst_any hs k1 (by omega) (by omega)) ?_
 rintro v w4 u4 ⟨ih, il, rfl, k2⟩ lw4 mw4
 refine sS (fun w5 sw5 vw5 => ?_)
 refine vOrd_nil ?_
 refine Wp.seq ?_
 refine wD [0, 1, 2, 3, 9, 4, 5, 6, 7, 8, 10] [766, 513, 515, 519, 511, 0, 0, 0, 0, 0, 0] (fun | 4 => fun v _ => IsW (cnt (la + 1) 0 0) v | 5 => fun v _ => IsW 1000000000000000000 v | 6 => fun v w => WsAt w v [cnt (la + 1) 0 0, 1000000000000000000] | 7 => fun v _ => IsW (psum [cnt (la + 1) 0 0, 1000000000000000000] [cnt (la + 1) 0 0, 1000000000000000000].length) v | 8 => fun v _ => IsW (fZ s (cnt (la + 1) 1 0)) v | _ => fun _ _ => True) (fun _ _ => ?_)
 refine sQ 3 ?_
 refine aP (-9223372036854775808) 9223372036854775807 ?_
 refine sO (fun bk6 w6 kb6 lw6 => ?_)
 refine s_callD rfl rfl rfl (by kernel_rfl) rfl (fun wc lc => bbeg_any (n := la + 1) (by omega)) ?_
 rintro v w7 u7 ⟨ah, al, rfl, k3⟩ lw7 mw7
 refine s_callD rfl rfl rfl (by kernel_rfl) rfl (fun wc lc => c_wof 1000000000000000000 (by omega) (by omega) wc) ?_
 rintro v w8 u8 ⟨oh, ol, rfl, k4⟩ lw8 mw8
 refine s_bsD (e := 26) (cs := [.int .i64 ah, .int .u64 al, .int .i64 oh, .int .u64 ol]) rfl rfl rfl (fun _ => by kernel_rfl) (fun c w' _ hr => ws_two hr k3 k4) ?_
 rintro v wq uq hq2 lwq mwq
 replace hq2 := hq2.later mwq
 refine s_callD rfl rfl rfl (by kernel_rfl) rfl (fun wc lc => bplus_any (hq2.later lc) (by show 2 ≤ 100; omega) hps) ?_
 rintro v w12 u12 k5 lw12 mw12
 rw [psum_2, c3] at k5
 refine s_callD rfl rfl rfl (by kernel_rfl) rfl (fun wc lc => binst_any hs k5 (by unfold cnt; omega) (by unfold cnt; omega)) ?_
 rintro v w13 u13 ⟨jh, jl, rfl, k6⟩ lw13 mw13
 refine sS (fun w14 sw14 vw14 => ?_)
 refine vOrd_nil ?_
 refine qQ 3 ?_
 refine sT (c_wcmp ⟨_, _, rfl, k2⟩ ⟨_, _, rfl, hx⟩ _) ?_
 rintro v w15 rfl lw15
 refine p_lss rfl rfl rfl rfl rfl (fun h23 => ?_) (fun h23 => ?_)
 ·replace h23 := cmpI_low.1 h23
  refine sQ 4 ?_
  refine sT (c_wcmp ⟨_, _, rfl, hx⟩ ⟨_, _, rfl, k6⟩ _) ?_
  rintro v w16 rfl lw16
  refine p_leq rfl rfl rfl rfl rfl (fun h29 => ?_) (fun h29 => ?_)
  ·replace h29 := cmpI_le.1 h29
   refine sZ 2 ?_
   refine Wp.ret ⟨.inr rfl, fun lW => ⟨_, res_tmp (P := Tryz.prog) rfl rfl, _, rfl, ?_, lW⟩⟩
   clear lW
   rw [decide_eq_true h23, decide_eq_true h29]; rfl
  ·replace h29 : ¬ (x ≤ fZ s (cnt (la + 1) 1 0)) := fun q => by have := cmpI_le.2 q; omega
   refine sZ 2 ?_
   refine Wp.ret ⟨.inr rfl, fun lW => ⟨_, res_tmp (P := Tryz.prog) rfl rfl, _, rfl, ?_, lW⟩⟩
   clear lW
   rw [decide_eq_true h23, decide_eq_false h29]; rfl
 ·replace h23 : ¬ (fZ s (cnt la 0 0) < x) := fun q => by have := cmpI_low.2 q; omega
  refine sZ 8 ?_
  refine Wp.ret ⟨.inr rfl, fun lW => ⟨_, res_tmp (P := Tryz.prog) rfl rfl, _, rfl, ?_, lW⟩⟩
  clear lW
  rw [decide_eq_false h23]; rfl
/-- The numbers of segments, up to the one at i, are bounded. -/
def bdd (l : List Sg) (i : Nat) : Prop := ∀ j s, j < i → l[j]? = some s → sgIn s = true ∧ ∀ t, j + 1 < i → l[j + 1]? = some t → s.d < t.d
def aheadD (l : List Sg) (i : Nat) : Int := if i = 0 then -1048577 else match l[i - 1]? with | some s => s.d | none => 0
theorem ahead_next {l : List Sg} {i : Nat} {s : Sg} (h : l[i]? = some s) : aheadD l (i + 1) = s.d := by
 unfold aheadD
 rw [if_neg (by omega), show i + 1 - 1 = i by omega, h]
theorem bdd_next {l : List Sg} {i : Nat} {s : Sg} (hb : bdd l i) (h : l[i]? = some s) (k : sgIn s = true) (g : aheadD l i + 1 ≤ s.d) : bdd l (i + 1) := by
 intro j x hj hx
 rcases (by omega : j < i ∨ j = i) with q | q
 ·refine ⟨(hb j x q hx).1, fun t ht htt => ?_⟩
  rcases (by omega : j + 1 < i ∨ j + 1 = i) with p | p
  ·exact (hb j x q hx).2 t p htt
  ·subst p
   rw [h] at htt
   cases htt
   rw [ahead_next hx] at g
   omega
 ·subst q
  rw [h] at hx
  cases hx
  exact ⟨k, fun t ht => by omega⟩
theorem bdd_may {l : List Sg} {day off : Int} (hb : bdd l l.length) (h0 : (1 ≤ l.length ∧ l.length ≤ 32)) (h1 : 0 ≤ off ∧ off ≤ 1000) (h2 : aheadD l l.length + 1 ≤ day ∧ day ≤ 1048576) : may0 l day off = true ∧ ∀ i, i < l.length → may1 l day i = true := by
 obtain ⟨x, hx⟩ : ∃ x, l[l.length - 1]? = some x := ⟨_, List.getElem?_eq_getElem (by omega)⟩
 have hax : aheadD l l.length = x.d := by have := ahead_next hx; rwa [show l.length - 1 + 1 = l.length by omega] at this
 have hxi := sgIn_iff.1 (hb _ x (by omega) hx).1
 refine ⟨may0_iff.2 ⟨h0, by omega, h1⟩, fun i hi => ?_⟩
 obtain ⟨s, hs⟩ : ∃ s, l[i]? = some s := ⟨_, List.getElem?_eq_getElem hi⟩
 obtain ⟨k1, k2⟩ := hb i s hi hs
 unfold may1
 rw [hs]
 simp only [Bool.and_eq_true, decide_eq_true_eq]
 refine ⟨k1, ?_⟩
 rcases (by omega : i + 1 < l.length ∨ l.length ≤ i + 1) with q | q
 ·obtain ⟨t, ht⟩ : ∃ t, l[i + 1]? = some t := ⟨_, List.getElem?_eq_getElem q⟩
  rw [unt_some ht]
  exact k2 t q ht
 ·rw [unt_none q]
  rw [show l.length - 1 = i by omega, hs] at hx
  cases hx
  omega
/-- What is bounded, in plain words. -/
def bddB (l : List Sg) (day off : Int) : Bool := may0 l day off && decide (∀ i, i < l.length → may1 l day i = true)
theorem bddB_iff {l : List Sg} {day off : Int} : bddB l day off = true ↔ may0 l day off = true ∧ ∀ i, i < l.length → may1 l day i = true := by
 simp only [bddB, Bool.and_eq_true, decide_eq_true_eq]
theorem bddB_no {l : List Sg} {day off : Int} (h : ¬ (may0 l day off = true ∧ ∀ i, i < l.length → may1 l day i = true)) : bddB l day off = false := by
 cases q : bddB l day off with
 | false => rfl
 | true => exact absurd (bddB_iff.1 q) h
theorem may1_at {l : List Sg} {day : Int} {i : Nat} {s : Sg} (h : ∀ i, i < l.length → may1 l day i = true) (hs : l[i]? = some s) : sgIn s = true ∧ s.d < untS l day i := by
 have := h i (List.getElem?_eq_some_iff.1 hs).1
 unfold may1 at this
 rw [hs] at this
 simpa only [Bool.and_eq_true, decide_eq_true_eq] using this
/-- What is told of a segment that is not bounded. -/
theorem bdd_at {l : List Sg} {day off : Int} (h : may0 l day off = true ∧ ∀ i, i < l.length → may1 l day i = true) {i : Nat} {s : Sg} (hs : l[i]? = some s) : aheadD l i + 1 ≤ s.d ∧ sgIn s = true := by
 obtain ⟨k1, k2⟩ := may1_at h.2 hs
 refine ⟨?_, k1⟩
 rcases Nat.eq_zero_or_pos i with q | q
 ·subst q
  have := (sgIn_iff.1 k1).1
  show -1048577 + 1 ≤ s.d
  omega
 ·obtain ⟨y, hy⟩ : ∃ y, l[i - 1]? = some y := ⟨_, List.getElem?_eq_getElem (by have := (List.getElem?_eq_some_iff.1 hs).1; omega)⟩
  have e := ahead_next hy
  rw [show i - 1 + 1 = i by omega] at e
  have g := (may1_at h.2 hy).2
  rw [unt_some (y := s) (by rw [show i - 1 + 1 = i by omega]; exact hs)] at g
  omega

theorem bbounded_any {l : List Sg} {day off : Int} {v : Value} {w : World} (hv : SegAt w v l) : Calls Tryz.prog 59 #[v, .int .i64 day, .int .i64 off] w fun e w' => ∃ r, e = .returned r ∧ r = .bool (bddB l day off) ∧ Below w.heap.size w w' := by
 obtain ⟨a, c0, rfl⟩ := hv.form
 refine calls_Wp (args := [_, _, _]) (n := 60) Tryz.func59 rfl rfl (by simp) ?_
 refine qZ ?_
 refine Wp.seq ?_
 refine qQ 1 ?_
 refine x_len rfl rfl rfl rfl rfl ?_
 refine p_eql rfl rfl rfl rfl rfl (fun h12 => ?_) (fun h12 => ?_)
 ·refine sZ 10 ?_
  refine Wp.condT rfl rfl ?_
  refine qZ ?_
  refine Wp.ret ⟨.inr rfl, fun lW => ⟨_, res_tmp (P := Tryz.prog) rfl rfl, _, rfl, ?_, lW⟩⟩
  clear lW
  rw [bddB_no (fun q => by have q0 := may0_iff.1 q.1; omega)]
 ·refine sQ 2 ?_
  refine x_len rfl rfl rfl rfl rfl ?_
  refine p_gtr rfl rfl rfl rfl rfl (fun h16 => ?_) (fun h16 => ?_)
  ·refine sZ 6 ?_
   refine Wp.condT rfl rfl ?_
   refine qZ ?_
   refine Wp.ret ⟨.inr rfl, fun lW => ⟨_, res_tmp (P := Tryz.prog) rfl rfl, _, rfl, ?_, lW⟩⟩
   clear lW
   rw [bddB_no (fun q => by have q0 := may0_iff.1 q.1; omega)]
  ·refine sQ 3 ?_
   refine sT (bwithin_any (off) (0) (1000)) ?_
   rintro v w1 rfl lw1
   rcases Bool.eq_false_or_eq_true (decide ((0) ≤ off ∧ off ≤ (1000))) with h20 | h20
   ·rw [h20]
    replace h20 := of_decide_eq_true h20
    refine sZ 2 ?_
    refine Wp.condF rfl rfl ?_
    refine Wp.skip ?_
    refine qZ ?_
    refine Wp.seq ?_
    refine qQ 1 ?_
    refine x_len rfl rfl rfl rfl rfl ?_
    refine sZ 1 ?_
    refine Wp.block ?_
    refine Wp.loop (fun m st W => ∃ (i : Nat) (pi ah : Int), st = St.of [(1, .v (.int .i64 day)), (7, .v (.int .i64 ah)), (23, .v (.slice a l.length c0)), (24, .v (.int .i64 (l.length : Int))), (25, .v (.int .i64 pi))] [] ∧ pi = i ∧ i ≤ l.length ∧ ah = aheadD l i ∧ (-1048577 ≤ ah ∧ ah ≤ 1048576) ∧ bdd l i ∧ m = l.length - i) ?_ ?_
    ·exact ⟨_, _, (St.of_le' (env := [(1, .v _), (7, .v _), (23, .v _), (24, .v _), (25, .v _)]) (mem := []) ⟨rfl, rfl, rfl, rfl, rfl, trivial⟩ trivial), 0, _, _, rfl, rfl, Nat.zero_le _, rfl, by omega, fun j s hj => by omega, rfl⟩
    ·rintro k st w2 ⟨i, pi, ah, rfl, hpi, hil, hah, hahb, hbd, rfl⟩
     refine Wp.seq ?_
     refine wR [0] ?_
     refine p_lss rfl rfl rfl rfl rfl (fun h26 => ?_) (fun h26 => ?_)
     ·refine vOrd_nil ?_
      refine Wp.seq ?_
      refine Wp.condT rfl rfl ?_
      refine Wp.skip ?_
      refine Wp.seq ?_
      refine Wp.block ?_
      refine Wp.seq ?_
      refine Wp.old (fun lo => ?_)
      obtain ⟨x, hx⟩ : ∃ x, l[i]? = some x := ⟨_, List.getElem?_eq_getElem (by omega)⟩
      obtain ⟨ab, ao, rfl, hcell⟩ := seg_at hv (by omega)
      obtain ⟨c1, c2, c3, c4⟩ := hcell i x hx
      have h64 := hv.all hx
      obtain ⟨⟨i1, i2⟩, ⟨i3, i4⟩, ⟨i5, i6⟩, ⟨i7, i8⟩⟩ := h64
      refine wR [0, 1, 2, 3] ?_
      refine sI (sz := 4) (ao + i * 4) ?_
      refine x_ldA [.int .i64 x.d, .int .i64 x.b, .int .i64 x.f, .int .i64 x.r] rfl rfl rfl rfl rfl rfl (Nat.lt_of_lt_of_le (World.block_lt_of_cell? _ _ c1) lo.size) (fun j u hj => ?_) ?_
      ·match j, hj with
       | 0, hj => cases hj; exact cell_later lo c1
       | 1, hj => cases hj; exact cell_later lo c2
       | 2, hj => cases hj; exact cell_later lo c3
       | 3, hj => cases hj; exact cell_later lo c4
      refine sO (fun bk10 w10 kb10 lw10 => ?_)
      refine sS (fun w11 sw11 vw11 => ?_)
      refine vOrd_nil ?_
      refine Wp.seq ?_
      refine qQ 3 ?_
      refine aP (-9223372036854775808) 9223372036854775807 ?_
      refine sT (bwithin_any (x.d) (ah + 1) (1048576)) ?_
      rintro v w12 rfl lw12
      rcases Bool.eq_false_or_eq_true (decide ((ah + 1) ≤ x.d ∧ x.d ≤ (1048576))) with h33 | h33
      ·rw [h33]
       replace h33 := of_decide_eq_true h33
       refine sQ 4 ?_
       refine sT (bwithin_any (x.b) (-1000000000) (1000000000)) ?_
       rintro v w13 rfl lw13
       rcases Bool.eq_false_or_eq_true (decide ((-1000000000) ≤ x.b ∧ x.b ≤ (1000000000))) with h38 | h38
       ·rw [h38]
        replace h38 := of_decide_eq_true h38
        refine sQ 5 ?_
        refine sT (bwithin_any (x.f) (-1048576) (1048576)) ?_
        rintro v w14 rfl lw14
        rcases Bool.eq_false_or_eq_true (decide ((-1048576) ≤ x.f ∧ x.f ≤ (1048576))) with h44 | h44
        ·rw [h44]
         replace h44 := of_decide_eq_true h44
         refine sQ 5 ?_
         refine sT (bwithin_any (x.r) (0) (1000000)) ?_
         rintro v w15 rfl lw15
         rcases Bool.eq_false_or_eq_true (decide ((0) ≤ x.r ∧ x.r ≤ (1000000))) with h50 | h50
         ·rw [h50]
          replace h50 := of_decide_eq_true h50
          refine sZ 2 ?_
          refine Wp.condF rfl rfl ?_
          refine Wp.skip ?_
          refine wZ ?_
          refine wR [0, 1] ?_
          refine aP (-9223372036854775808) 9223372036854775807 ?_
          refine sZ 1 ?_
          exact ⟨l.length - (i + 1), _, by omega, (St.of_le' (env := [(1, .v _), (7, .v _), (23, .v _), (24, .v _), (25, .v _)]) (mem := []) ⟨rfl, rfl, rfl, rfl, rfl, trivial⟩ trivial), i + 1, _, _, rfl, by omega, by omega, (ahead_next hx).symm, by omega, bdd_next hbd hx (sgIn_iff.2 ⟨by omega, by omega, by omega, by omega⟩) (by omega), rfl⟩
         ·rw [h50]
          replace h50 := of_decide_eq_false h50
          refine sZ 2 ?_
          refine Wp.condT rfl rfl ?_
          refine qZ ?_
          refine Wp.ret ⟨.inr rfl, fun lW => ⟨_, res_tmp (P := Tryz.prog) rfl rfl, _, rfl, ?_, lW⟩⟩
          clear lW
          rw [bddB_no (fun q => by have q1 := bdd_at q hx; have q2 := sgIn_iff.1 q1.2; omega)]
        ·rw [h44]
         replace h44 := of_decide_eq_false h44
         refine sZ 8 ?_
         refine Wp.condT rfl rfl ?_
         refine qZ ?_
         refine Wp.ret ⟨.inr rfl, fun lW => ⟨_, res_tmp (P := Tryz.prog) rfl rfl, _, rfl, ?_, lW⟩⟩
         clear lW
         rw [bddB_no (fun q => by have q1 := bdd_at q hx; have q2 := sgIn_iff.1 q1.2; omega)]
       ·rw [h38]
        replace h38 := of_decide_eq_false h38
        refine sZ 14 ?_
        refine Wp.condT rfl rfl ?_
        refine qZ ?_
        refine Wp.ret ⟨.inr rfl, fun lW => ⟨_, res_tmp (P := Tryz.prog) rfl rfl, _, rfl, ?_, lW⟩⟩
        clear lW
        rw [bddB_no (fun q => by have q1 := bdd_at q hx; have q2 := sgIn_iff.1 q1.2; omega)]
      ·rw [h33]
       replace h33 := of_decide_eq_false h33
       refine sZ 19 ?_
       refine Wp.condT rfl rfl ?_
       refine qZ ?_
       refine Wp.ret ⟨.inr rfl, fun lW => ⟨_, res_tmp (P := Tryz.prog) rfl rfl, _, rfl, ?_, lW⟩⟩
       clear lW
       rw [bddB_no (fun q => by have q1 := bdd_at q hx; have q2 := sgIn_iff.1 q1.2; omega)]
     ·refine vOrd_nil ?_
      refine Wp.seq ?_
      refine Wp.condF rfl rfl ?_
      refine Wp.exit ?_
      refine qQ 2 ?_
      refine aP (-9223372036854775808) 9223372036854775807 ?_
      refine sT (bwithin_any day (ah + 1) 1048576) ?_
      rintro v w16 rfl lw16
      rcases Bool.eq_false_or_eq_true (decide (ah + 1 ≤ day ∧ day ≤ 1048576)) with h59 | h59
      ·rw [h59]
       replace h59 := of_decide_eq_true h59
       refine sZ 1 ?_
       refine Wp.ret ⟨.inr rfl, fun lW => ⟨_, res_tmp (P := Tryz.prog) rfl rfl, _, rfl, ?_, lW⟩⟩
       clear lW
       obtain rfl : i = l.length := by omega
       rw [bddB_iff.2 (bdd_may hbd (by omega) (by omega) (by omega))]
      ·rw [h59]
       replace h59 := of_decide_eq_false h59
       refine sZ 1 ?_
       refine Wp.ret ⟨.inr rfl, fun lW => ⟨_, res_tmp (P := Tryz.prog) rfl rfl, _, rfl, ?_, lW⟩⟩
       clear lW
       obtain rfl : i = l.length := by omega
       rw [bddB_no (fun q => ?_)]
       obtain ⟨y, hy⟩ : ∃ y, l[l.length - 1]? = some y := ⟨_, List.getElem?_eq_getElem (by omega)⟩
       have e := ahead_next hy
       rw [show l.length - 1 + 1 = l.length by omega] at e
       have g := (may1_at q.2 hy).2
       rw [unt_none (by omega)] at g
       have q0 := may0_iff.1 q.1
       omega
   ·rw [h20]
    replace h20 := of_decide_eq_false h20
    refine sZ 2 ?_
    refine Wp.condT rfl rfl ?_
    refine qZ ?_
    refine Wp.ret ⟨.inr rfl, fun lW => ⟨_, res_tmp (P := Tryz.prog) rfl rfl, _, rfl, ?_, lW⟩⟩
    clear lW
    rw [bddB_no (fun q => by have q0 := may0_iff.1 q.1; omega)]
end Go.Proofs.YthihioakjpmnbaaGreat
