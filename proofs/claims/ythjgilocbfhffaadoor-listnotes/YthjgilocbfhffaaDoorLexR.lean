/-
  The contracts of the document's own answer for layer 10: blank, blanks, number, word, Scan. Of lines of no more than 2^63 - 1 bytes.
-/
import Derived.Test.YthjgilocbfhffaaDoorLexS
namespace Go.Proofs.YthjgilocbfhffaaDoor
open Go.RowKit
set_option maxRecDepth 100000

theorem tw_ge {p : UInt8 → Bool} : ∀ {l : List UInt8} {k : Nat}, (l.take k).all p = true → k ≤ l.length → k ≤ (l.takeWhile p).length
  | _, 0, _, _ => Nat.zero_le _
  | [], k + 1, _, h => by simp at h
  | c :: l, k + 1, h, hk => by
    rw [List.take_succ_cons, List.all_cons, Bool.and_eq_true] at h
    have := tw_ge h.2 (by simpa using hk)
    rw [List.takeWhile_cons_of_pos h.1]
    simpa using this
theorem drop_tw (p : UInt8 → Bool) (l : List UInt8) (a : Nat) : l.drop (a + ((l.drop a).takeWhile p).length) = (l.drop a).dropWhile p := by rw [← List.drop_drop, tw_drop]
theorem at_le (p : UInt8 → Bool) {l : List UInt8} {a : Nat} (ha : a ≤ l.length) : a + ((l.drop a).takeWhile p).length ≤ l.length := by
  have := tw_len p (l.drop a)
  rw [List.length_drop] at this
  omega
theorem at_end {p : UInt8 → Bool} {l : List UInt8} {a A : Nat} (ha : a ≤ l.length) (hA : A = a + ((l.drop a).takeWhile p).length) : A = l.length ↔ (l.drop a).dropWhile p = [] := by
  have := tw_len p (l.drop a)
  rw [List.length_drop] at this
  rw [← List.length_eq_zero_iff]
  omega
theorem none_at {p : UInt8 → Bool} {l : List UInt8} {a A : Nat} (hA : A = a + ((l.drop a).takeWhile p).length) : (l.drop a).takeWhile p = [] ↔ A = a := by
  rw [← List.length_eq_zero_iff]
  omega
theorem get_drop {l : List UInt8} {a i : Nat} {c : UInt8} (h : a ≤ i) (hc : l[i]? = some c) : (l.drop a)[i - a]? = some c := by rw [List.getElem?_drop, show a + (i - a) = i by omega]; exact hc
theorem past_drop {l : List UInt8} {a i : Nat} {d : UInt8} (h : a ≤ i) (hi : l.length ≤ i) (hd : (l.drop a)[i - a]? = some d) : False := by
  rw [List.getElem?_drop, show a + (i - a) = i by omega] at hd
  have := (List.getElem?_eq_some_iff.1 hd).1
  omega
theorem cnt_small {t : List UInt8} (h : t.all (isD 10) = true) (hl : t.length ≤ 17) : cnt 10 t 0 < 100000000000000000 := by
  have h1 := cnt_lt 10 t 0 h
  have h2 : 10 ^ t.length ≤ 10 ^ 17 := Nat.pow_le_pow_right (by decide) hl
  omega
theorem cnt_small16 {t : List UInt8} (h : t.all (isD 16) = true) {n : Nat} (hl : t.length ≤ n) : cnt 16 t 0 < 16 ^ n := by
  have h1 := cnt_lt 16 t 0 h
  have h2 : 16 ^ t.length ≤ 16 ^ n := Nat.pow_le_pow_right (by decide) hl
  omega
theorem num_no0 {r : List UInt8} {j : Nat} (h : dT 10 r = r.take j) (hj : j = 0) : numBad r = true := by
  subst hj
  unfold numBad dgBad
  rw [h]; rfl
theorem num_big {r : List UInt8} {j : Nat} (h : (r.take j).all (isD 10) = true) (hj : 18 < j) (hl : j ≤ r.length) : numBad r = true := by
  have h1 : j ≤ (dT 10 r).length := tw_ge h hl
  unfold numBad dgBad
  rw [decide_eq_true (p := 18 < (dT 10 r).length) (by omega)]
  simp
theorem num_ok {r : List UInt8} {j : Nat} {c : UInt8} (h : dT 10 r = r.take j) (hj : 0 < j) (hl : j ≤ r.length) (h18 : j ≤ 18) (hc : r[0]? = some c) : numBad r = (decide (1 < j) && decide (c = 48)) ∧ numVal r = cnt 10 (r.take j) 0 ∧ (dT 10 r).length = j := by
  have hlen : (r.take j).length = j := by rw [List.length_take]; omega
  have hb : dgBad 10 18 r = false := by
    unfold dgBad
    rw [h, decide_eq_false (fun e => by rw [e] at hlen; simp at hlen; omega), decide_eq_false (by omega)]
    rfl
  have hd : dg 10 18 r = r.take j := by unfold dg; rw [if_neg (by rw [hb]; decide), h]
  refine ⟨?_, by unfold numVal; rw [hd], by rw [h, hlen]⟩
  unfold numBad
  rw [hb, hd, hlen, Bool.false_or, List.head?_eq_getElem?, List.getElem?_take_of_lt hj, hc]
  simp
theorem word_no0 {r : List UInt8} {j : Nat} (h : dT 16 r = r.take j) (hj : j = 0) : dgBad 16 8 r = true := by
  subst hj
  unfold dgBad
  rw [h]; rfl
theorem word_big {r : List UInt8} {j : Nat} (h : (r.take j).all (isD 16) = true) (hj : 8 < j) (hl : j ≤ r.length) : dgBad 16 8 r = true := by
  have h1 : j ≤ (dT 16 r).length := tw_ge h hl
  unfold dgBad
  rw [decide_eq_true (p := 8 < (dT 16 r).length) (by omega)]
  simp
theorem word_ok {r : List UInt8} {j : Nat} (h : dT 16 r = r.take j) (hj : 0 < j) (hl : j ≤ r.length) (h8 : j ≤ 8) : dgBad 16 8 r = false ∧ wordVal r = cnt 16 (r.take j) 0 ∧ (dT 16 r).length = j := by
  have hlen : (r.take j).length = j := by rw [List.length_take]; omega
  have hb : dgBad 16 8 r = false := by
    unfold dgBad
    rw [h, decide_eq_false (fun e => by rw [e] at hlen; simp at hlen; omega), decide_eq_false (by omega)]
    rfl
  have hd : dg 16 8 r = r.take j := by unfold dg; rw [if_neg (by rw [hb]; decide), h]
  exact ⟨hb, by unfold wordVal; rw [hd], by rw [h, hlen]⟩
theorem refblank_any (c : UInt8) (w : World) :
    Calls Tryd.prog 63 #[.int .u8 c.toNat] w fun e w' => ∃ r, e = .returned r ∧ r = .bool (isBl c) ∧ Below w.heap.size w w' := by
  refine calls_Wp (args := [_]) (n := 9) Tryd.func63 rfl rfl (by simp) ?_
  refine Wp.seq ?_
  refine Wp.region [0] (by kernel_rfl) (by kernel_rfl) ?_
  refine s_assign rfl rfl rfl rfl ?_
  refine vOrd_nil ?_
  refine Wp.seq ?_
  refine Wp.region [0, 1, 2, 3, 4, 5, 6] (by kernel_rfl) (by kernel_rfl) ?_
  refine s_move rfl rfl rfl rfl ?_
  refine p_eql rfl rfl rfl rfl rfl (fun h4 => ?_) (fun h4 => ?_)
  · refine s_move rfl rfl rfl rfl ?_
    refine s_skip rfl rfl rfl ?_
    refine s_skip rfl rfl rfl ?_
    refine s_pick rfl rfl rfl rfl rfl ?_
    refine s_assign rfl rfl rfl rfl ?_
    refine vOrd_nil ?_
    refine Wp.ret ⟨.inr rfl, fun lW => ⟨_, res_tmp (P := Tryd.prog) rfl rfl, _, rfl, ?_, lW⟩⟩
    clear lW
    rw [show isBl c = true by simp [isBl]; omega]
  · refine s_move rfl rfl rfl rfl ?_
    refine s_move rfl rfl rfl rfl ?_
    refine p_eql rfl rfl rfl rfl rfl (fun h7 => ?_) (fun h7 => ?_)
    · refine s_pick rfl rfl rfl rfl rfl ?_
      refine s_assign rfl rfl rfl rfl ?_
      refine vOrd_nil ?_
      refine Wp.ret ⟨.inr rfl, fun lW => ⟨_, res_tmp (P := Tryd.prog) rfl rfl, _, rfl, ?_, lW⟩⟩
      clear lW
      rw [show isBl c = true by simp [isBl]; omega]
    · refine s_pick rfl rfl rfl rfl rfl ?_
      refine s_assign rfl rfl rfl rfl ?_
      refine vOrd_nil ?_
      refine Wp.ret ⟨.inr rfl, fun lW => ⟨_, res_tmp (P := Tryd.prog) rfl rfl, _, rfl, ?_, lW⟩⟩
      clear lW
      rw [show isBl c = false by simp [isBl]; omega]
theorem refblanks_any (l : List UInt8) (a : Nat) (ha : a ≤ l.length) (hl : l.length ≤ 9223372036854775807) (A : Nat) (hA : A = a + ((l.drop a).takeWhile isBl).length) (w : World) :
    Calls Tryd.prog 43 #[.string ⟨⟨l⟩⟩, .int .i64 (a : Int)] w fun e w' => ∃ r, e = .returned r ∧ r = .int .i64 (A : Int) ∧ Below w.heap.size w w' := by
  refine calls_Wp (args := [_, _]) (n := 18) Tryd.func43 rfl rfl (by simp) ?_
  refine Wp.seq ?_
  refine Wp.region [0] (by kernel_rfl) (by kernel_rfl) ?_
  refine s_assign rfl rfl rfl rfl ?_
  refine vOrd_nil ?_
  refine Wp.seq ?_
  refine Wp.block ?_
  refine Wp.loop (fun k st _ => ∃ i : Nat, st = St.of [(0, .v (.string ⟨⟨l⟩⟩)), (1, .v (.int .i64 (i : Int)))] [] ∧ a ≤ i ∧ i ≤ l.length ∧ ((l.drop a).take (i - a)).all isBl = true ∧ k = l.length - i) ?_ ?_
  · exact ⟨_, _, (St.of_le' (env := [(0, .v _), (1, .v _)]) (mem := []) ⟨rfl, rfl, trivial⟩ trivial), a, rfl, Nat.le_refl _, ha, by simp, rfl⟩
  · rintro k st w1 ⟨i, rfl, hai, hi, hall, rfl⟩
    refine Wp.seq ?_
    refine Wp.seq ?_
    refine Wp.region [0, 1, 2, 3, 4, 5, 6, 7, 8, 9] (by kernel_rfl) (by kernel_rfl) ?_
    refine s_move rfl rfl rfl rfl ?_
    refine s_move rfl rfl rfl rfl ?_
    refine b_len rfl rfl rfl rfl rfl ?_
    refine p_lss rfl rfl rfl rfl rfl (fun h8 => ?_) (fun h8 => ?_)
    · obtain ⟨c, hc⟩ := get_some (l := l) (i := i) (by omega)
      refine s_move rfl rfl rfl rfl ?_
      refine s_move rfl rfl rfl rfl ?_
      refine s_move rfl rfl rfl rfl ?_
      refine b_byte rfl rfl rfl rfl rfl rfl (by omega) (hc) ?_
      refine s_callT rfl rfl rfl (by kernel_rfl) rfl (refblank_any c _) ?_
      rintro v w2 rfl lw2
      rcases Bool.eq_false_or_eq_true (isBl c) with h13 | h13
      · rw [h13]
        refine s_pick rfl rfl rfl rfl rfl ?_
        refine vOrd_nil ?_
        refine Wp.condT rfl rfl ?_
        refine Wp.skip ?_
        refine Wp.block ?_
        refine Wp.region [0, 1, 2] (by kernel_rfl) (by kernel_rfl) ?_
        refine s_move rfl rfl rfl rfl ?_
        refine a_add (-9223372036854775808) 9223372036854775807 (by decide) rfl rfl rfl rfl rfl (by omega) (by omega) ?_
        refine s_assign rfl rfl rfl rfl ?_
        refine vOrd_nil ?_
        exact ⟨_, _, by omega, (St.of_le' (env := [(0, .v _), (1, .v _)]) (mem := []) ⟨rfl, rfl, trivial⟩ trivial), i + 1, rfl, by omega, by omega, by rw [show i + 1 - a = i - a + 1 by omega]; exact all_snoc hall (get_drop hai hc) h13, rfl⟩
      · rw [h13]
        refine s_pick rfl rfl rfl rfl rfl ?_
        refine vOrd_nil ?_
        refine Wp.condF rfl rfl ?_
        refine Wp.exit ?_
        refine Wp.seq ?_
        refine Wp.region [0, 1] (by kernel_rfl) (by kernel_rfl) ?_
        refine s_move rfl rfl rfl rfl ?_
        refine s_assign rfl rfl rfl rfl ?_
        refine vOrd_nil ?_
        refine Wp.ret ⟨.inr rfl, fun lW => ⟨_, res_tmp (P := Tryd.prog) rfl rfl, _, rfl, ?_, lW⟩⟩
        clear lW
        have htw := tw_at (l := l.drop a) (i := i - a) hall (fun d hd => by rw [get_drop hai hc] at hd; cases hd; exact h13)
        rw [hA, htw.1, List.length_take, List.length_drop, show a + min (i - a) (l.length - a) = i by omega]
    · refine s_move rfl rfl rfl rfl ?_
      refine s_skip rfl rfl rfl ?_
      refine s_skip rfl rfl rfl ?_
      refine s_skip rfl rfl rfl ?_
      refine s_skip rfl rfl rfl ?_
      refine s_pick rfl rfl rfl rfl rfl ?_
      refine vOrd_nil ?_
      refine Wp.condF rfl rfl ?_
      refine Wp.exit ?_
      refine Wp.seq ?_
      refine Wp.region [0, 1] (by kernel_rfl) (by kernel_rfl) ?_
      refine s_move rfl rfl rfl rfl ?_
      refine s_assign rfl rfl rfl rfl ?_
      refine vOrd_nil ?_
      refine Wp.ret ⟨.inr rfl, fun lW => ⟨_, res_tmp (P := Tryd.prog) rfl rfl, _, rfl, ?_, lW⟩⟩
      clear lW
      have htw := tw_at (l := l.drop a) (i := i - a) hall (fun d hd => by exact (past_drop hai (by omega) hd).elim)
      rw [hA, htw.1, List.length_take, List.length_drop, show a + min (i - a) (l.length - a) = i by omega]
theorem refnumber_any (l : List UInt8) (a : Nat) (r : List UInt8) (ha : a ≤ l.length) (hr : l.drop a = r) (hl : l.length ≤ 9223372036854775807) (w : World) :
    Calls Tryd.prog 45 #[.string ⟨⟨l⟩⟩, .int .i64 (a : Int)] w fun e w' => ∃ v, e = .returned v ∧ (∃ (n : Int) (a1 : Nat), v = .tuple #[.int .i64 n, .int .i64 (a1 : Int), .bool (!numBad r)] ∧ (numBad r = false → n = numVal r ∧ a1 = a + (dT 10 r).length)) ∧ Below w.heap.size w w' := by
  subst hr
  refine calls_Wp (args := [_, _]) (n := 57) Tryd.func45 rfl rfl (by simp) ?_
  refine Wp.seq ?_
  refine Wp.region [0, 1, 2] (by kernel_rfl) (by kernel_rfl) ?_
  refine s_assign rfl rfl rfl rfl ?_
  refine s_assign rfl rfl rfl rfl ?_
  refine s_assign rfl rfl rfl rfl ?_
  refine vOrd_nil ?_
  refine Wp.seq ?_
  refine Wp.region [0, 1, 2] (by kernel_rfl) (by kernel_rfl) ?_
  refine s_move rfl rfl rfl rfl ?_
  refine s_assign rfl rfl rfl rfl ?_
  refine s_assign rfl rfl rfl rfl ?_
  refine vOrd_nil ?_
  refine Wp.seq ?_
  refine Wp.block ?_
  refine Wp.loop (fun k st _ => ∃ (i : Nat) (N : Int), st = St.of [(0, .v (.string ⟨⟨l⟩⟩)), (1, .v (.int .i64 (i : Int))), (7, .v (.int .i64 N)), (8, .v (.int .i64 (a : Int)))] [] ∧ a ≤ i ∧ i ≤ l.length ∧ i - a ≤ 18 ∧ N = cnt 10 ((l.drop a).take (i - a)) 0 ∧ ((l.drop a).take (i - a)).all (isD 10) = true ∧ k = l.length - i) ?_ ?_
  · exact ⟨_, _, (St.of_le' (env := [(0, .v _), (1, .v _), (7, .v _), (8, .v _)]) (mem := []) ⟨rfl, rfl, rfl, rfl, trivial⟩ trivial), a, 0, rfl, Nat.le_refl _, ha, by omega, by rw [Nat.sub_self]; rfl, by simp, rfl⟩
  · rintro k st w1 ⟨i, N, rfl, hai, hi, h18, hN, hall, rfl⟩
    refine Wp.seq ?_
    refine Wp.seq ?_
    refine Wp.region [0, 1, 2, 3, 4, 5, 6, 7, 8, 9, 10, 11, 12, 13, 14, 15] (by kernel_rfl) (by kernel_rfl) ?_
    refine s_move rfl rfl rfl rfl ?_
    refine s_move rfl rfl rfl rfl ?_
    refine b_len rfl rfl rfl rfl rfl ?_
    refine p_lss rfl rfl rfl rfl rfl (fun h13 => ?_) (fun h13 => ?_)
    · obtain ⟨c, hc⟩ := get_some (l := l) (i := i) (by omega)
      have hcl := c.toNat_lt
      refine s_move rfl rfl rfl rfl ?_
      refine s_move rfl rfl rfl rfl ?_
      refine s_move rfl rfl rfl rfl ?_
      refine b_byte rfl rfl rfl rfl rfl rfl (by omega) (hc) ?_
      refine p_geq rfl rfl rfl rfl rfl (fun h18 => ?_) (fun h18 => ?_)
      · refine s_pick rfl rfl rfl rfl rfl ?_
        refine s_move rfl rfl rfl rfl ?_
        refine s_move rfl rfl rfl rfl ?_
        refine s_move rfl rfl rfl rfl ?_
        refine b_byte rfl rfl rfl rfl rfl rfl (by omega) (hc) ?_
        refine p_leq rfl rfl rfl rfl rfl (fun h24 => ?_) (fun h24 => ?_)
        · have hdig : isD 10 c = true := isD_ten.2 (by omega)
          refine s_pick rfl rfl rfl rfl rfl ?_
          refine vOrd_nil ?_
          refine Wp.condT rfl rfl ?_
          refine Wp.skip ?_
          refine Wp.block ?_
          refine Wp.seq ?_
          refine Wp.seq ?_
          refine Wp.region [0, 1, 2, 3] (by kernel_rfl) (by kernel_rfl) ?_
          refine s_move rfl rfl rfl rfl ?_
          refine s_move rfl rfl rfl rfl ?_
          refine a_sub (-9223372036854775808) 9223372036854775807 (by decide) rfl rfl rfl rfl rfl (by omega) (by omega) ?_
          refine p_geq rfl rfl rfl rfl rfl (fun h29 => ?_) (fun h29 => ?_)
          · refine vOrd_nil ?_
            refine Wp.condT rfl rfl ?_
            refine Wp.seq ?_
            refine Wp.region [0, 1, 2] (by kernel_rfl) (by kernel_rfl) ?_
            refine s_assign rfl rfl rfl rfl ?_
            refine s_assign rfl rfl rfl rfl ?_
            refine s_assign rfl rfl rfl rfl ?_
            refine vOrd_nil ?_
            refine Wp.ret ⟨.inr rfl, fun lW => ⟨_, ⟨_, _, _, res_tmp (P := Tryd.prog) rfl rfl, res_tmp (P := Tryd.prog) rfl rfl, res_tmp (P := Tryd.prog) rfl rfl, rfl⟩, _, rfl, ?_, lW⟩⟩
            clear lW
            rw [num_big (j := i - a + 1) (all_snoc hall (get_drop hai hc) hdig) (by omega) (by rw [List.length_drop]; omega)]
            exact ⟨0, 0, rfl, fun h => by cases h⟩
          · have hb := cnt_small hall (by rw [List.length_take]; omega)
            refine vOrd_nil ?_
            refine Wp.condF rfl rfl ?_
            refine Wp.skip ?_
            refine Wp.seq ?_
            refine Wp.region [0, 1, 2, 3, 4, 5, 6, 7, 8] (by kernel_rfl) (by kernel_rfl) ?_
            refine s_move rfl rfl rfl rfl ?_
            refine a_mul (-9223372036854775808) 9223372036854775807 (by decide) rfl rfl rfl rfl rfl (by omega) (by omega) ?_
            refine s_move rfl rfl rfl rfl ?_
            refine s_move rfl rfl rfl rfl ?_
            refine b_byte rfl rfl rfl rfl rfl rfl (by omega) (hc) ?_
            refine a_sub (0) 255 (by decide) rfl rfl rfl rfl rfl (by omega) (by omega) ?_
            refine a_conv (-9223372036854775808) 9223372036854775807 (by decide) rfl rfl rfl rfl rfl rfl (by omega) (by omega) ?_
            refine a_add (-9223372036854775808) 9223372036854775807 (by decide) rfl rfl rfl rfl rfl (by omega) (by omega) ?_
            refine s_assign rfl rfl rfl rfl ?_
            refine vOrd_nil ?_
            refine Wp.region [0, 1, 2] (by kernel_rfl) (by kernel_rfl) ?_
            refine s_move rfl rfl rfl rfl ?_
            refine a_add (-9223372036854775808) 9223372036854775807 (by decide) rfl rfl rfl rfl rfl (by omega) (by omega) ?_
            refine s_assign rfl rfl rfl rfl ?_
            refine vOrd_nil ?_
            exact ⟨_, _, by omega, (St.of_le' (env := [(0, .v _), (1, .v _), (7, .v _), (8, .v _)]) (mem := []) ⟨rfl, rfl, rfl, rfl, trivial⟩ trivial), i + 1, _, rfl, by omega, by omega, by omega, by rw [show i + 1 - a = i - a + 1 by omega, take_succ (get_drop hai hc), cnt_snoc, digN_a (by omega) (by omega)]; omega, by rw [show i + 1 - a = i - a + 1 by omega]; exact all_snoc hall (get_drop hai hc) hdig, rfl⟩
        · refine s_pick rfl rfl rfl rfl rfl ?_
          refine vOrd_nil ?_
          refine Wp.condF rfl rfl ?_
          refine Wp.exit ?_
          have htw := tw_at (l := l.drop a) (i := i - a) hall (fun d hd => by rw [get_drop hai hc] at hd; cases hd; exact Bool.eq_false_iff.2 (fun e => by have := isD_ten.1 e; omega))
          refine Wp.seq ?_
          refine Wp.region [0, 1, 2, 3, 4, 5, 6, 7, 8, 9, 10, 11, 12, 13, 14, 15, 16, 17, 18, 19] (by kernel_rfl) (by kernel_rfl) ?_
          refine s_move rfl rfl rfl rfl ?_
          refine s_move rfl rfl rfl rfl ?_
          refine s_move rfl rfl rfl rfl ?_
          refine s_move rfl rfl rfl rfl ?_
          refine p_gtr rfl rfl rfl rfl rfl (fun h44 => ?_) (fun h44 => ?_)
          · obtain ⟨c0, hc0⟩ := get_some (l := l) (i := a) (by omega)
            refine s_move rfl rfl rfl rfl ?_
            refine s_move rfl rfl rfl rfl ?_
            refine s_move rfl rfl rfl rfl ?_
            refine b_byte rfl rfl rfl rfl rfl rfl (by omega) (hc0) ?_
            refine p_neq rfl rfl rfl rfl rfl (fun h49 => ?_) (fun h49 => ?_)
            · refine s_move rfl rfl rfl rfl ?_
              refine s_skip rfl rfl rfl ?_
              refine s_skip rfl rfl rfl ?_
              refine s_skip rfl rfl rfl ?_
              refine s_skip rfl rfl rfl ?_
              refine s_pick rfl rfl rfl rfl rfl ?_
              refine s_pick rfl rfl rfl rfl rfl ?_
              refine s_assign rfl rfl rfl rfl ?_
              refine s_assign rfl rfl rfl rfl ?_
              refine s_assign rfl rfl rfl rfl ?_
              refine vOrd_nil ?_
              refine Wp.ret ⟨.inr rfl, fun lW => ⟨_, ⟨_, _, _, res_tmp (P := Tryd.prog) rfl rfl, res_tmp (P := Tryd.prog) rfl rfl, res_tmp (P := Tryd.prog) rfl rfl, rfl⟩, _, rfl, ?_, lW⟩⟩
              clear lW
              obtain ⟨k1, k2, k3⟩ := num_ok (c := c0) htw.1 (by omega) (by rw [List.length_drop]; omega) (by omega) (by rw [List.getElem?_drop]; exact hc0)
              rw [show numBad (l.drop a) = false by rw [k1, decide_eq_false (p := c0 = 48) (fun e => h49 (by rw [e]; rfl)), Bool.and_false]]
              exact ⟨_, i, rfl, fun _ => ⟨by rw [k2, hN], by rw [k3]; omega⟩⟩
            · refine s_move rfl rfl rfl rfl ?_
              refine s_move rfl rfl rfl rfl ?_
              refine s_move rfl rfl rfl rfl ?_
              refine a_add (-9223372036854775808) 9223372036854775807 (by decide) rfl rfl rfl rfl rfl (by omega) (by omega) ?_
              refine p_eql rfl rfl rfl rfl rfl (fun h54 => ?_) (fun h54 => ?_)
              · refine s_pick rfl rfl rfl rfl rfl ?_
                refine s_pick rfl rfl rfl rfl rfl ?_
                refine s_assign rfl rfl rfl rfl ?_
                refine s_assign rfl rfl rfl rfl ?_
                refine s_assign rfl rfl rfl rfl ?_
                refine vOrd_nil ?_
                refine Wp.ret ⟨.inr rfl, fun lW => ⟨_, ⟨_, _, _, res_tmp (P := Tryd.prog) rfl rfl, res_tmp (P := Tryd.prog) rfl rfl, res_tmp (P := Tryd.prog) rfl rfl, rfl⟩, _, rfl, ?_, lW⟩⟩
                clear lW
                obtain ⟨k1, k2, k3⟩ := num_ok (c := c0) htw.1 (by omega) (by rw [List.length_drop]; omega) (by omega) (by rw [List.getElem?_drop]; exact hc0)
                rw [show numBad (l.drop a) = false by rw [k1, decide_eq_false (p := 1 < i - a) (by omega), Bool.false_and]]
                exact ⟨_, i, rfl, fun _ => ⟨by rw [k2, hN], by rw [k3]; omega⟩⟩
              · refine s_pick rfl rfl rfl rfl rfl ?_
                refine s_pick rfl rfl rfl rfl rfl ?_
                refine s_assign rfl rfl rfl rfl ?_
                refine s_assign rfl rfl rfl rfl ?_
                refine s_assign rfl rfl rfl rfl ?_
                refine vOrd_nil ?_
                refine Wp.ret ⟨.inr rfl, fun lW => ⟨_, ⟨_, _, _, res_tmp (P := Tryd.prog) rfl rfl, res_tmp (P := Tryd.prog) rfl rfl, res_tmp (P := Tryd.prog) rfl rfl, rfl⟩, _, rfl, ?_, lW⟩⟩
                clear lW
                obtain ⟨k1, k2, k3⟩ := num_ok (c := c0) htw.1 (by omega) (by rw [List.length_drop]; omega) (by omega) (by rw [List.getElem?_drop]; exact hc0)
                rw [show numBad (l.drop a) = true by rw [k1, decide_eq_true (p := 1 < i - a) (by omega), decide_eq_true (p := c0 = 48) (UInt8.toNat_inj.1 (by have : (48 : UInt8).toNat = 48 := rfl; omega))]; rfl]
                exact ⟨_, i, rfl, fun h => by cases h⟩
          · refine s_move rfl rfl rfl rfl ?_
            refine s_skip rfl rfl rfl ?_
            refine s_skip rfl rfl rfl ?_
            refine s_skip rfl rfl rfl ?_
            refine s_skip rfl rfl rfl ?_
            refine s_skip rfl rfl rfl ?_
            refine s_skip rfl rfl rfl ?_
            refine s_skip rfl rfl rfl ?_
            refine s_skip rfl rfl rfl ?_
            refine s_skip rfl rfl rfl ?_
            refine s_skip rfl rfl rfl ?_
            refine s_pick rfl rfl rfl rfl rfl ?_
            refine s_assign rfl rfl rfl rfl ?_
            refine s_assign rfl rfl rfl rfl ?_
            refine s_assign rfl rfl rfl rfl ?_
            refine vOrd_nil ?_
            refine Wp.ret ⟨.inr rfl, fun lW => ⟨_, ⟨_, _, _, res_tmp (P := Tryd.prog) rfl rfl, res_tmp (P := Tryd.prog) rfl rfl, res_tmp (P := Tryd.prog) rfl rfl, rfl⟩, _, rfl, ?_, lW⟩⟩
            clear lW
            rw [num_no0 htw.1 (by omega)]
            exact ⟨_, i, rfl, fun h => by cases h⟩
      · refine s_pick rfl rfl rfl rfl rfl ?_
        refine s_move rfl rfl rfl rfl ?_
        refine s_skip rfl rfl rfl ?_
        refine s_skip rfl rfl rfl ?_
        refine s_skip rfl rfl rfl ?_
        refine s_skip rfl rfl rfl ?_
        refine s_pick rfl rfl rfl rfl rfl ?_
        refine vOrd_nil ?_
        refine Wp.condF rfl rfl ?_
        refine Wp.exit ?_
        have htw := tw_at (l := l.drop a) (i := i - a) hall (fun d hd => by rw [get_drop hai hc] at hd; cases hd; exact Bool.eq_false_iff.2 (fun e => by have := isD_ten.1 e; omega))
        refine Wp.seq ?_
        refine Wp.region [0, 1, 2, 3, 4, 5, 6, 7, 8, 9, 10, 11, 12, 13, 14, 15, 16, 17, 18, 19] (by kernel_rfl) (by kernel_rfl) ?_
        refine s_move rfl rfl rfl rfl ?_
        refine s_move rfl rfl rfl rfl ?_
        refine s_move rfl rfl rfl rfl ?_
        refine s_move rfl rfl rfl rfl ?_
        refine p_gtr rfl rfl rfl rfl rfl (fun h44 => ?_) (fun h44 => ?_)
        · obtain ⟨c0, hc0⟩ := get_some (l := l) (i := a) (by omega)
          refine s_move rfl rfl rfl rfl ?_
          refine s_move rfl rfl rfl rfl ?_
          refine s_move rfl rfl rfl rfl ?_
          refine b_byte rfl rfl rfl rfl rfl rfl (by omega) (hc0) ?_
          refine p_neq rfl rfl rfl rfl rfl (fun h49 => ?_) (fun h49 => ?_)
          · refine s_move rfl rfl rfl rfl ?_
            refine s_skip rfl rfl rfl ?_
            refine s_skip rfl rfl rfl ?_
            refine s_skip rfl rfl rfl ?_
            refine s_skip rfl rfl rfl ?_
            refine s_pick rfl rfl rfl rfl rfl ?_
            refine s_pick rfl rfl rfl rfl rfl ?_
            refine s_assign rfl rfl rfl rfl ?_
            refine s_assign rfl rfl rfl rfl ?_
            refine s_assign rfl rfl rfl rfl ?_
            refine vOrd_nil ?_
            refine Wp.ret ⟨.inr rfl, fun lW => ⟨_, ⟨_, _, _, res_tmp (P := Tryd.prog) rfl rfl, res_tmp (P := Tryd.prog) rfl rfl, res_tmp (P := Tryd.prog) rfl rfl, rfl⟩, _, rfl, ?_, lW⟩⟩
            clear lW
            obtain ⟨k1, k2, k3⟩ := num_ok (c := c0) htw.1 (by omega) (by rw [List.length_drop]; omega) (by omega) (by rw [List.getElem?_drop]; exact hc0)
            rw [show numBad (l.drop a) = false by rw [k1, decide_eq_false (p := c0 = 48) (fun e => h49 (by rw [e]; rfl)), Bool.and_false]]
            exact ⟨_, i, rfl, fun _ => ⟨by rw [k2, hN], by rw [k3]; omega⟩⟩
          · refine s_move rfl rfl rfl rfl ?_
            refine s_move rfl rfl rfl rfl ?_
            refine s_move rfl rfl rfl rfl ?_
            refine a_add (-9223372036854775808) 9223372036854775807 (by decide) rfl rfl rfl rfl rfl (by omega) (by omega) ?_
            refine p_eql rfl rfl rfl rfl rfl (fun h54 => ?_) (fun h54 => ?_)
            · refine s_pick rfl rfl rfl rfl rfl ?_
              refine s_pick rfl rfl rfl rfl rfl ?_
              refine s_assign rfl rfl rfl rfl ?_
              refine s_assign rfl rfl rfl rfl ?_
              refine s_assign rfl rfl rfl rfl ?_
              refine vOrd_nil ?_
              refine Wp.ret ⟨.inr rfl, fun lW => ⟨_, ⟨_, _, _, res_tmp (P := Tryd.prog) rfl rfl, res_tmp (P := Tryd.prog) rfl rfl, res_tmp (P := Tryd.prog) rfl rfl, rfl⟩, _, rfl, ?_, lW⟩⟩
              clear lW
              obtain ⟨k1, k2, k3⟩ := num_ok (c := c0) htw.1 (by omega) (by rw [List.length_drop]; omega) (by omega) (by rw [List.getElem?_drop]; exact hc0)
              rw [show numBad (l.drop a) = false by rw [k1, decide_eq_false (p := 1 < i - a) (by omega), Bool.false_and]]
              exact ⟨_, i, rfl, fun _ => ⟨by rw [k2, hN], by rw [k3]; omega⟩⟩
            · refine s_pick rfl rfl rfl rfl rfl ?_
              refine s_pick rfl rfl rfl rfl rfl ?_
              refine s_assign rfl rfl rfl rfl ?_
              refine s_assign rfl rfl rfl rfl ?_
              refine s_assign rfl rfl rfl rfl ?_
              refine vOrd_nil ?_
              refine Wp.ret ⟨.inr rfl, fun lW => ⟨_, ⟨_, _, _, res_tmp (P := Tryd.prog) rfl rfl, res_tmp (P := Tryd.prog) rfl rfl, res_tmp (P := Tryd.prog) rfl rfl, rfl⟩, _, rfl, ?_, lW⟩⟩
              clear lW
              obtain ⟨k1, k2, k3⟩ := num_ok (c := c0) htw.1 (by omega) (by rw [List.length_drop]; omega) (by omega) (by rw [List.getElem?_drop]; exact hc0)
              rw [show numBad (l.drop a) = true by rw [k1, decide_eq_true (p := 1 < i - a) (by omega), decide_eq_true (p := c0 = 48) (UInt8.toNat_inj.1 (by have : (48 : UInt8).toNat = 48 := rfl; omega))]; rfl]
              exact ⟨_, i, rfl, fun h => by cases h⟩
        · refine s_move rfl rfl rfl rfl ?_
          refine s_skip rfl rfl rfl ?_
          refine s_skip rfl rfl rfl ?_
          refine s_skip rfl rfl rfl ?_
          refine s_skip rfl rfl rfl ?_
          refine s_skip rfl rfl rfl ?_
          refine s_skip rfl rfl rfl ?_
          refine s_skip rfl rfl rfl ?_
          refine s_skip rfl rfl rfl ?_
          refine s_skip rfl rfl rfl ?_
          refine s_skip rfl rfl rfl ?_
          refine s_pick rfl rfl rfl rfl rfl ?_
          refine s_assign rfl rfl rfl rfl ?_
          refine s_assign rfl rfl rfl rfl ?_
          refine s_assign rfl rfl rfl rfl ?_
          refine vOrd_nil ?_
          refine Wp.ret ⟨.inr rfl, fun lW => ⟨_, ⟨_, _, _, res_tmp (P := Tryd.prog) rfl rfl, res_tmp (P := Tryd.prog) rfl rfl, res_tmp (P := Tryd.prog) rfl rfl, rfl⟩, _, rfl, ?_, lW⟩⟩
          clear lW
          rw [num_no0 htw.1 (by omega)]
          exact ⟨_, i, rfl, fun h => by cases h⟩
    · refine s_move rfl rfl rfl rfl ?_
      refine s_skip rfl rfl rfl ?_
      refine s_skip rfl rfl rfl ?_
      refine s_skip rfl rfl rfl ?_
      refine s_skip rfl rfl rfl ?_
      refine s_pick rfl rfl rfl rfl rfl ?_
      refine s_move rfl rfl rfl rfl ?_
      refine s_skip rfl rfl rfl ?_
      refine s_skip rfl rfl rfl ?_
      refine s_skip rfl rfl rfl ?_
      refine s_skip rfl rfl rfl ?_
      refine s_pick rfl rfl rfl rfl rfl ?_
      refine vOrd_nil ?_
      refine Wp.condF rfl rfl ?_
      refine Wp.exit ?_
      have htw := tw_at (l := l.drop a) (i := i - a) hall (fun d hd => by exact (past_drop hai (by omega) hd).elim)
      refine Wp.seq ?_
      refine Wp.region [0, 1, 2, 3, 4, 5, 6, 7, 8, 9, 10, 11, 12, 13, 14, 15, 16, 17, 18, 19] (by kernel_rfl) (by kernel_rfl) ?_
      refine s_move rfl rfl rfl rfl ?_
      refine s_move rfl rfl rfl rfl ?_
      refine s_move rfl rfl rfl rfl ?_
      refine s_move rfl rfl rfl rfl ?_
      refine p_gtr rfl rfl rfl rfl rfl (fun h44 => ?_) (fun h44 => ?_)
      · obtain ⟨c0, hc0⟩ := get_some (l := l) (i := a) (by omega)
        refine s_move rfl rfl rfl rfl ?_
        refine s_move rfl rfl rfl rfl ?_
        refine s_move rfl rfl rfl rfl ?_
        refine b_byte rfl rfl rfl rfl rfl rfl (by omega) (hc0) ?_
        refine p_neq rfl rfl rfl rfl rfl (fun h49 => ?_) (fun h49 => ?_)
        · refine s_move rfl rfl rfl rfl ?_
          refine s_skip rfl rfl rfl ?_
          refine s_skip rfl rfl rfl ?_
          refine s_skip rfl rfl rfl ?_
          refine s_skip rfl rfl rfl ?_
          refine s_pick rfl rfl rfl rfl rfl ?_
          refine s_pick rfl rfl rfl rfl rfl ?_
          refine s_assign rfl rfl rfl rfl ?_
          refine s_assign rfl rfl rfl rfl ?_
          refine s_assign rfl rfl rfl rfl ?_
          refine vOrd_nil ?_
          refine Wp.ret ⟨.inr rfl, fun lW => ⟨_, ⟨_, _, _, res_tmp (P := Tryd.prog) rfl rfl, res_tmp (P := Tryd.prog) rfl rfl, res_tmp (P := Tryd.prog) rfl rfl, rfl⟩, _, rfl, ?_, lW⟩⟩
          clear lW
          obtain ⟨k1, k2, k3⟩ := num_ok (c := c0) htw.1 (by omega) (by rw [List.length_drop]; omega) (by omega) (by rw [List.getElem?_drop]; exact hc0)
          rw [show numBad (l.drop a) = false by rw [k1, decide_eq_false (p := c0 = 48) (fun e => h49 (by rw [e]; rfl)), Bool.and_false]]
          exact ⟨_, i, rfl, fun _ => ⟨by rw [k2, hN], by rw [k3]; omega⟩⟩
        · refine s_move rfl rfl rfl rfl ?_
          refine s_move rfl rfl rfl rfl ?_
          refine s_move rfl rfl rfl rfl ?_
          refine a_add (-9223372036854775808) 9223372036854775807 (by decide) rfl rfl rfl rfl rfl (by omega) (by omega) ?_
          refine p_eql rfl rfl rfl rfl rfl (fun h54 => ?_) (fun h54 => ?_)
          · refine s_pick rfl rfl rfl rfl rfl ?_
            refine s_pick rfl rfl rfl rfl rfl ?_
            refine s_assign rfl rfl rfl rfl ?_
            refine s_assign rfl rfl rfl rfl ?_
            refine s_assign rfl rfl rfl rfl ?_
            refine vOrd_nil ?_
            refine Wp.ret ⟨.inr rfl, fun lW => ⟨_, ⟨_, _, _, res_tmp (P := Tryd.prog) rfl rfl, res_tmp (P := Tryd.prog) rfl rfl, res_tmp (P := Tryd.prog) rfl rfl, rfl⟩, _, rfl, ?_, lW⟩⟩
            clear lW
            obtain ⟨k1, k2, k3⟩ := num_ok (c := c0) htw.1 (by omega) (by rw [List.length_drop]; omega) (by omega) (by rw [List.getElem?_drop]; exact hc0)
            rw [show numBad (l.drop a) = false by rw [k1, decide_eq_false (p := 1 < i - a) (by omega), Bool.false_and]]
            exact ⟨_, i, rfl, fun _ => ⟨by rw [k2, hN], by rw [k3]; omega⟩⟩
          · refine s_pick rfl rfl rfl rfl rfl ?_
            refine s_pick rfl rfl rfl rfl rfl ?_
            refine s_assign rfl rfl rfl rfl ?_
            refine s_assign rfl rfl rfl rfl ?_
            refine s_assign rfl rfl rfl rfl ?_
            refine vOrd_nil ?_
            refine Wp.ret ⟨.inr rfl, fun lW => ⟨_, ⟨_, _, _, res_tmp (P := Tryd.prog) rfl rfl, res_tmp (P := Tryd.prog) rfl rfl, res_tmp (P := Tryd.prog) rfl rfl, rfl⟩, _, rfl, ?_, lW⟩⟩
            clear lW
            obtain ⟨k1, k2, k3⟩ := num_ok (c := c0) htw.1 (by omega) (by rw [List.length_drop]; omega) (by omega) (by rw [List.getElem?_drop]; exact hc0)
            rw [show numBad (l.drop a) = true by rw [k1, decide_eq_true (p := 1 < i - a) (by omega), decide_eq_true (p := c0 = 48) (UInt8.toNat_inj.1 (by have : (48 : UInt8).toNat = 48 := rfl; omega))]; rfl]
            exact ⟨_, i, rfl, fun h => by cases h⟩
      · refine s_move rfl rfl rfl rfl ?_
        refine s_skip rfl rfl rfl ?_
        refine s_skip rfl rfl rfl ?_
        refine s_skip rfl rfl rfl ?_
        refine s_skip rfl rfl rfl ?_
        refine s_skip rfl rfl rfl ?_
        refine s_skip rfl rfl rfl ?_
        refine s_skip rfl rfl rfl ?_
        refine s_skip rfl rfl rfl ?_
        refine s_skip rfl rfl rfl ?_
        refine s_skip rfl rfl rfl ?_
        refine s_pick rfl rfl rfl rfl rfl ?_
        refine s_assign rfl rfl rfl rfl ?_
        refine s_assign rfl rfl rfl rfl ?_
        refine s_assign rfl rfl rfl rfl ?_
        refine vOrd_nil ?_
        refine Wp.ret ⟨.inr rfl, fun lW => ⟨_, ⟨_, _, _, res_tmp (P := Tryd.prog) rfl rfl, res_tmp (P := Tryd.prog) rfl rfl, res_tmp (P := Tryd.prog) rfl rfl, rfl⟩, _, rfl, ?_, lW⟩⟩
        clear lW
        rw [num_no0 htw.1 (by omega)]
        exact ⟨_, i, rfl, fun h => by cases h⟩
theorem refword_any (l : List UInt8) (a : Nat) (r : List UInt8) (ha : a ≤ l.length) (hr : l.drop a = r) (hl : l.length ≤ 9223372036854775807) (w : World) :
    Calls Tryd.prog 44 #[.string ⟨⟨l⟩⟩, .int .i64 (a : Int)] w fun e w' => ∃ v, e = .returned v ∧ (∃ (n : Int) (a1 : Nat), v = .tuple #[.int .u32 n, .int .i64 (a1 : Int), .bool (!dgBad 16 8 r)] ∧ (dgBad 16 8 r = false → n = wordVal r ∧ a1 = a + (dT 16 r).length)) ∧ Below w.heap.size w w' := by
  subst hr
  refine calls_Wp (args := [_, _]) (n := 72) Tryd.func44 rfl rfl (by simp) ?_
  refine Wp.seq ?_
  refine Wp.region [0, 1, 2] (by kernel_rfl) (by kernel_rfl) ?_
  refine s_assign rfl rfl rfl rfl ?_
  refine s_assign rfl rfl rfl rfl ?_
  refine s_assign rfl rfl rfl rfl ?_
  refine vOrd_nil ?_
  refine Wp.seq ?_
  refine Wp.region [0, 1, 2] (by kernel_rfl) (by kernel_rfl) ?_
  refine s_move rfl rfl rfl rfl ?_
  refine s_assign rfl rfl rfl rfl ?_
  refine s_assign rfl rfl rfl rfl ?_
  refine vOrd_nil ?_
  refine Wp.seq ?_
  refine Wp.block ?_
  refine Wp.loop (fun k st _ => ∃ (i : Nat) (N : Int), st = St.of [(0, .v (.string ⟨⟨l⟩⟩)), (1, .v (.int .i64 (i : Int))), (7, .v (.int .i64 N)), (8, .v (.int .i64 (a : Int)))] [] ∧ a ≤ i ∧ i ≤ l.length ∧ i - a ≤ 9 ∧ N = cnt 16 ((l.drop a).take (i - a)) 0 ∧ ((l.drop a).take (i - a)).all (isD 16) = true ∧ k = l.length - i) ?_ ?_
  · exact ⟨_, _, (St.of_le' (env := [(0, .v _), (1, .v _), (7, .v _), (8, .v _)]) (mem := []) ⟨rfl, rfl, rfl, rfl, trivial⟩ trivial), a, 0, rfl, Nat.le_refl _, ha, by omega, by rw [Nat.sub_self]; rfl, by simp, rfl⟩
  · rintro k st w1 ⟨i, N, rfl, hai, hi, h9, hN, hall, rfl⟩
    refine Wp.seq ?_
    refine Wp.seq ?_
    refine Wp.region [0, 1, 2, 3, 4, 5, 6, 7, 8, 9] (by kernel_rfl) (by kernel_rfl) ?_
    refine s_move rfl rfl rfl rfl ?_
    refine s_move rfl rfl rfl rfl ?_
    refine b_len rfl rfl rfl rfl rfl ?_
    refine p_lss rfl rfl rfl rfl rfl (fun h14 => ?_) (fun h14 => ?_)
    · obtain ⟨c, hc⟩ := get_some (l := l) (i := i) (by omega)
      have hcl := c.toNat_lt
      refine s_move rfl rfl rfl rfl ?_
      refine s_move rfl rfl rfl rfl ?_
      refine s_move rfl rfl rfl rfl ?_
      refine a_sub (-9223372036854775808) 9223372036854775807 (by decide) rfl rfl rfl rfl rfl (by omega) (by omega) ?_
      refine p_leq rfl rfl rfl rfl rfl (fun h19 => ?_) (fun h19 => ?_)
      · have hb := cnt_small16 hall (n := 8) (by rw [List.length_take]; omega)
        refine s_pick rfl rfl rfl rfl rfl ?_
        refine vOrd_nil ?_
        refine Wp.condT rfl rfl ?_
        refine Wp.skip ?_
        refine Wp.block ?_
        refine Wp.seq ?_
        refine Wp.region [0] (by kernel_rfl) (by kernel_rfl) ?_
        refine s_assign rfl rfl rfl rfl ?_
        refine vOrd_nil ?_
        refine Wp.seq ?_
        refine Wp.seq ?_
        refine Wp.region [0, 1, 2, 3, 4, 5, 6, 7, 8, 9] (by kernel_rfl) (by kernel_rfl) ?_
        refine s_move rfl rfl rfl rfl ?_
        refine s_move rfl rfl rfl rfl ?_
        refine b_byte rfl rfl rfl rfl rfl rfl (by omega) (hc) ?_
        refine p_geq rfl rfl rfl rfl rfl (fun h24 => ?_) (fun h24 => ?_)
        · refine s_move rfl rfl rfl rfl ?_
          refine s_move rfl rfl rfl rfl ?_
          refine s_move rfl rfl rfl rfl ?_
          refine b_byte rfl rfl rfl rfl rfl rfl (by omega) (hc) ?_
          refine p_leq rfl rfl rfl rfl rfl (fun h29 => ?_) (fun h29 => ?_)
          · refine s_pick rfl rfl rfl rfl rfl ?_
            refine vOrd_nil ?_
            refine Wp.condT rfl rfl ?_
            refine Wp.region [0, 1, 2, 3, 4, 5] (by kernel_rfl) (by kernel_rfl) ?_
            refine s_move rfl rfl rfl rfl ?_
            refine s_move rfl rfl rfl rfl ?_
            refine b_byte rfl rfl rfl rfl rfl rfl (by omega) (hc) ?_
            refine a_sub (0) 255 (by decide) rfl rfl rfl rfl rfl (by omega) (by omega) ?_
            refine a_conv (-9223372036854775808) 9223372036854775807 (by decide) rfl rfl rfl rfl rfl rfl (by omega) (by omega) ?_
            refine s_assign rfl rfl rfl rfl ?_
            refine vOrd_nil ?_
            refine Wp.seq ?_
            refine Wp.seq ?_
            refine Wp.region [0, 1, 2, 3, 4, 5, 6, 7, 8, 9] (by kernel_rfl) (by kernel_rfl) ?_
            refine s_move rfl rfl rfl rfl ?_
            refine s_move rfl rfl rfl rfl ?_
            refine b_byte rfl rfl rfl rfl rfl rfl (by omega) (hc) ?_
            refine f_geq rfl rfl rfl rfl rfl (by omega) ?_
            refine s_move rfl rfl rfl rfl ?_
            refine s_skip rfl rfl rfl ?_
            refine s_skip rfl rfl rfl ?_
            refine s_skip rfl rfl rfl ?_
            refine s_skip rfl rfl rfl ?_
            refine s_pick rfl rfl rfl rfl rfl ?_
            refine vOrd_nil ?_
            refine Wp.condF rfl rfl ?_
            refine Wp.skip ?_
            refine Wp.seq ?_
            refine Wp.seq ?_
            refine Wp.region [0, 1] (by kernel_rfl) (by kernel_rfl) ?_
            refine s_move rfl rfl rfl rfl ?_
            refine f_lss rfl rfl rfl rfl rfl (by omega) ?_
            refine vOrd_nil ?_
            refine Wp.condF rfl rfl ?_
            refine Wp.skip ?_
            refine Wp.seq ?_
            refine Wp.region [0, 1, 2, 3, 4] (by kernel_rfl) (by kernel_rfl) ?_
            refine s_move rfl rfl rfl rfl ?_
            refine a_mul (-9223372036854775808) 9223372036854775807 (by decide) rfl rfl rfl rfl rfl (by omega) (by omega) ?_
            refine s_move rfl rfl rfl rfl ?_
            refine a_add (-9223372036854775808) 9223372036854775807 (by decide) rfl rfl rfl rfl rfl (by omega) (by omega) ?_
            refine s_assign rfl rfl rfl rfl ?_
            refine vOrd_nil ?_
            refine Wp.region [0, 1, 2] (by kernel_rfl) (by kernel_rfl) ?_
            refine s_move rfl rfl rfl rfl ?_
            refine a_add (-9223372036854775808) 9223372036854775807 (by decide) rfl rfl rfl rfl rfl (by omega) (by omega) ?_
            refine s_assign rfl rfl rfl rfl ?_
            refine vOrd_nil ?_
            exact ⟨_, _, by omega, (St.of_le' (env := [(0, .v _), (1, .v _), (7, .v _), (8, .v _)]) (mem := []) ⟨rfl, rfl, rfl, rfl, trivial⟩ trivial), i + 1, _, rfl, by omega, by omega, by omega, by rw [show i + 1 - a = i - a + 1 by omega, take_succ (get_drop hai hc), cnt_snoc, digN_a (by omega) (by omega)]; omega, by rw [show i + 1 - a = i - a + 1 by omega]; exact all_snoc hall (get_drop hai hc) (isD_16.2 (by omega)), rfl⟩
          · refine s_pick rfl rfl rfl rfl rfl ?_
            refine vOrd_nil ?_
            refine Wp.condF rfl rfl ?_
            refine Wp.skip ?_
            refine Wp.seq ?_
            refine Wp.seq ?_
            refine Wp.region [0, 1, 2, 3, 4, 5, 6, 7, 8, 9] (by kernel_rfl) (by kernel_rfl) ?_
            refine s_move rfl rfl rfl rfl ?_
            refine s_move rfl rfl rfl rfl ?_
            refine b_byte rfl rfl rfl rfl rfl rfl (by omega) (hc) ?_
            refine p_geq rfl rfl rfl rfl rfl (fun h39 => ?_) (fun h39 => ?_)
            · refine s_move rfl rfl rfl rfl ?_
              refine s_move rfl rfl rfl rfl ?_
              refine s_move rfl rfl rfl rfl ?_
              refine b_byte rfl rfl rfl rfl rfl rfl (by omega) (hc) ?_
              refine p_leq rfl rfl rfl rfl rfl (fun h44 => ?_) (fun h44 => ?_)
              · refine s_pick rfl rfl rfl rfl rfl ?_
                refine vOrd_nil ?_
                refine Wp.condT rfl rfl ?_
                refine Wp.region [0, 1, 2, 3, 4, 5, 6] (by kernel_rfl) (by kernel_rfl) ?_
                refine s_move rfl rfl rfl rfl ?_
                refine s_move rfl rfl rfl rfl ?_
                refine b_byte rfl rfl rfl rfl rfl rfl (by omega) (hc) ?_
                refine a_sub (0) 255 (by decide) rfl rfl rfl rfl rfl (by omega) (by omega) ?_
                refine a_conv (-9223372036854775808) 9223372036854775807 (by decide) rfl rfl rfl rfl rfl rfl (by omega) (by omega) ?_
                refine a_add (-9223372036854775808) 9223372036854775807 (by decide) rfl rfl rfl rfl rfl (by omega) (by omega) ?_
                refine s_assign rfl rfl rfl rfl ?_
                refine vOrd_nil ?_
                refine Wp.seq ?_
                refine Wp.seq ?_
                refine Wp.region [0, 1] (by kernel_rfl) (by kernel_rfl) ?_
                refine s_move rfl rfl rfl rfl ?_
                refine f_lss rfl rfl rfl rfl rfl (by omega) ?_
                refine vOrd_nil ?_
                refine Wp.condF rfl rfl ?_
                refine Wp.skip ?_
                refine Wp.seq ?_
                refine Wp.region [0, 1, 2, 3, 4] (by kernel_rfl) (by kernel_rfl) ?_
                refine s_move rfl rfl rfl rfl ?_
                refine a_mul (-9223372036854775808) 9223372036854775807 (by decide) rfl rfl rfl rfl rfl (by omega) (by omega) ?_
                refine s_move rfl rfl rfl rfl ?_
                refine a_add (-9223372036854775808) 9223372036854775807 (by decide) rfl rfl rfl rfl rfl (by omega) (by omega) ?_
                refine s_assign rfl rfl rfl rfl ?_
                refine vOrd_nil ?_
                refine Wp.region [0, 1, 2] (by kernel_rfl) (by kernel_rfl) ?_
                refine s_move rfl rfl rfl rfl ?_
                refine a_add (-9223372036854775808) 9223372036854775807 (by decide) rfl rfl rfl rfl rfl (by omega) (by omega) ?_
                refine s_assign rfl rfl rfl rfl ?_
                refine vOrd_nil ?_
                exact ⟨_, _, by omega, (St.of_le' (env := [(0, .v _), (1, .v _), (7, .v _), (8, .v _)]) (mem := []) ⟨rfl, rfl, rfl, rfl, trivial⟩ trivial), i + 1, _, rfl, by omega, by omega, by omega, by rw [show i + 1 - a = i - a + 1 by omega, take_succ (get_drop hai hc), cnt_snoc, digN_b (by omega) (by omega)]; omega, by rw [show i + 1 - a = i - a + 1 by omega]; exact all_snoc hall (get_drop hai hc) (isD_16.2 (by omega)), rfl⟩
              · refine s_pick rfl rfl rfl rfl rfl ?_
                refine vOrd_nil ?_
                refine Wp.condF rfl rfl ?_
                refine Wp.skip ?_
                refine Wp.seq ?_
                refine Wp.seq ?_
                refine Wp.region [0, 1] (by kernel_rfl) (by kernel_rfl) ?_
                refine s_move rfl rfl rfl rfl ?_
                refine t_lss rfl rfl rfl rfl rfl (by omega) ?_
                refine vOrd_nil ?_
                refine Wp.condT rfl rfl ?_
                refine Wp.exit ?_
                have htw := tw_at (l := l.drop a) (i := i - a) hall (fun d hd => by rw [get_drop hai hc] at hd; cases hd; exact Bool.eq_false_iff.2 (fun e => by have := isD_16.1 e; omega))
                refine Wp.seq ?_
                refine Wp.region [0, 1, 2, 3, 4, 5, 6, 7, 8, 9, 10, 11, 12, 13, 14] (by kernel_rfl) (by kernel_rfl) ?_
                refine s_move rfl rfl rfl rfl ?_
                refine a_wconv rfl rfl rfl rfl rfl rfl ?_
                refine s_move rfl rfl rfl rfl ?_
                refine s_move rfl rfl rfl rfl ?_
                refine s_move rfl rfl rfl rfl ?_
                refine p_gtr rfl rfl rfl rfl rfl (fun h65 => ?_) (fun h65 => ?_)
                · refine s_move rfl rfl rfl rfl ?_
                  refine s_move rfl rfl rfl rfl ?_
                  refine s_move rfl rfl rfl rfl ?_
                  refine a_sub (-9223372036854775808) 9223372036854775807 (by decide) rfl rfl rfl rfl rfl (by omega) (by omega) ?_
                  refine t_leq rfl rfl rfl rfl rfl (by omega) ?_
                  refine s_pick rfl rfl rfl rfl rfl ?_
                  refine s_assign rfl rfl rfl rfl ?_
                  refine s_assign rfl rfl rfl rfl ?_
                  refine s_assign rfl rfl rfl rfl ?_
                  refine vOrd_nil ?_
                  refine Wp.ret ⟨.inr rfl, fun lW => ⟨_, ⟨_, _, _, res_tmp (P := Tryd.prog) rfl rfl, res_tmp (P := Tryd.prog) rfl rfl, res_tmp (P := Tryd.prog) rfl rfl, rfl⟩, _, rfl, ?_, lW⟩⟩
                  clear lW
                  obtain ⟨k1, k2, k3⟩ := word_ok htw.1 (by omega) (by rw [List.length_drop]; omega) (by omega)
                  have hb8 := cnt_small16 hall (n := 8) (by rw [List.length_take]; omega)
                  have hwr : IntKind.u32.wrap N = N := wrap_in .u32 (by rw [hN]; show (0 : Int) ≤ _; omega) (by rw [hN]; show _ ≤ (4294967295 : Int); omega)
                  rw [k1, hwr]
                  exact ⟨_, i, rfl, fun _ => ⟨by rw [k2, hN], by rw [k3]; omega⟩⟩
                · refine s_move rfl rfl rfl rfl ?_
                  refine s_skip rfl rfl rfl ?_
                  refine s_skip rfl rfl rfl ?_
                  refine s_skip rfl rfl rfl ?_
                  refine s_skip rfl rfl rfl ?_
                  refine s_pick rfl rfl rfl rfl rfl ?_
                  refine s_assign rfl rfl rfl rfl ?_
                  refine s_assign rfl rfl rfl rfl ?_
                  refine s_assign rfl rfl rfl rfl ?_
                  refine vOrd_nil ?_
                  refine Wp.ret ⟨.inr rfl, fun lW => ⟨_, ⟨_, _, _, res_tmp (P := Tryd.prog) rfl rfl, res_tmp (P := Tryd.prog) rfl rfl, res_tmp (P := Tryd.prog) rfl rfl, rfl⟩, _, rfl, ?_, lW⟩⟩
                  clear lW
                  rw [word_no0 htw.1 (by omega)]
                  exact ⟨_, i, rfl, fun h => by cases h⟩
            · refine s_move rfl rfl rfl rfl ?_
              refine s_skip rfl rfl rfl ?_
              refine s_skip rfl rfl rfl ?_
              refine s_skip rfl rfl rfl ?_
              refine s_skip rfl rfl rfl ?_
              refine s_pick rfl rfl rfl rfl rfl ?_
              refine vOrd_nil ?_
              refine Wp.condF rfl rfl ?_
              refine Wp.skip ?_
              refine Wp.seq ?_
              refine Wp.seq ?_
              refine Wp.region [0, 1] (by kernel_rfl) (by kernel_rfl) ?_
              refine s_move rfl rfl rfl rfl ?_
              refine t_lss rfl rfl rfl rfl rfl (by omega) ?_
              refine vOrd_nil ?_
              refine Wp.condT rfl rfl ?_
              refine Wp.exit ?_
              have htw := tw_at (l := l.drop a) (i := i - a) hall (fun d hd => by rw [get_drop hai hc] at hd; cases hd; exact Bool.eq_false_iff.2 (fun e => by have := isD_16.1 e; omega))
              refine Wp.seq ?_
              refine Wp.region [0, 1, 2, 3, 4, 5, 6, 7, 8, 9, 10, 11, 12, 13, 14] (by kernel_rfl) (by kernel_rfl) ?_
              refine s_move rfl rfl rfl rfl ?_
              refine a_wconv rfl rfl rfl rfl rfl rfl ?_
              refine s_move rfl rfl rfl rfl ?_
              refine s_move rfl rfl rfl rfl ?_
              refine s_move rfl rfl rfl rfl ?_
              refine p_gtr rfl rfl rfl rfl rfl (fun h65 => ?_) (fun h65 => ?_)
              · refine s_move rfl rfl rfl rfl ?_
                refine s_move rfl rfl rfl rfl ?_
                refine s_move rfl rfl rfl rfl ?_
                refine a_sub (-9223372036854775808) 9223372036854775807 (by decide) rfl rfl rfl rfl rfl (by omega) (by omega) ?_
                refine t_leq rfl rfl rfl rfl rfl (by omega) ?_
                refine s_pick rfl rfl rfl rfl rfl ?_
                refine s_assign rfl rfl rfl rfl ?_
                refine s_assign rfl rfl rfl rfl ?_
                refine s_assign rfl rfl rfl rfl ?_
                refine vOrd_nil ?_
                refine Wp.ret ⟨.inr rfl, fun lW => ⟨_, ⟨_, _, _, res_tmp (P := Tryd.prog) rfl rfl, res_tmp (P := Tryd.prog) rfl rfl, res_tmp (P := Tryd.prog) rfl rfl, rfl⟩, _, rfl, ?_, lW⟩⟩
                clear lW
                obtain ⟨k1, k2, k3⟩ := word_ok htw.1 (by omega) (by rw [List.length_drop]; omega) (by omega)
                have hb8 := cnt_small16 hall (n := 8) (by rw [List.length_take]; omega)
                have hwr : IntKind.u32.wrap N = N := wrap_in .u32 (by rw [hN]; show (0 : Int) ≤ _; omega) (by rw [hN]; show _ ≤ (4294967295 : Int); omega)
                rw [k1, hwr]
                exact ⟨_, i, rfl, fun _ => ⟨by rw [k2, hN], by rw [k3]; omega⟩⟩
              · refine s_move rfl rfl rfl rfl ?_
                refine s_skip rfl rfl rfl ?_
                refine s_skip rfl rfl rfl ?_
                refine s_skip rfl rfl rfl ?_
                refine s_skip rfl rfl rfl ?_
                refine s_pick rfl rfl rfl rfl rfl ?_
                refine s_assign rfl rfl rfl rfl ?_
                refine s_assign rfl rfl rfl rfl ?_
                refine s_assign rfl rfl rfl rfl ?_
                refine vOrd_nil ?_
                refine Wp.ret ⟨.inr rfl, fun lW => ⟨_, ⟨_, _, _, res_tmp (P := Tryd.prog) rfl rfl, res_tmp (P := Tryd.prog) rfl rfl, res_tmp (P := Tryd.prog) rfl rfl, rfl⟩, _, rfl, ?_, lW⟩⟩
                clear lW
                rw [word_no0 htw.1 (by omega)]
                exact ⟨_, i, rfl, fun h => by cases h⟩
        · refine s_move rfl rfl rfl rfl ?_
          refine s_skip rfl rfl rfl ?_
          refine s_skip rfl rfl rfl ?_
          refine s_skip rfl rfl rfl ?_
          refine s_skip rfl rfl rfl ?_
          refine s_pick rfl rfl rfl rfl rfl ?_
          refine vOrd_nil ?_
          refine Wp.condF rfl rfl ?_
          refine Wp.skip ?_
          refine Wp.seq ?_
          refine Wp.seq ?_
          refine Wp.region [0, 1, 2, 3, 4, 5, 6, 7, 8, 9] (by kernel_rfl) (by kernel_rfl) ?_
          refine s_move rfl rfl rfl rfl ?_
          refine s_move rfl rfl rfl rfl ?_
          refine b_byte rfl rfl rfl rfl rfl rfl (by omega) (hc) ?_
          refine f_geq rfl rfl rfl rfl rfl (by omega) ?_
          refine s_move rfl rfl rfl rfl ?_
          refine s_skip rfl rfl rfl ?_
          refine s_skip rfl rfl rfl ?_
          refine s_skip rfl rfl rfl ?_
          refine s_skip rfl rfl rfl ?_
          refine s_pick rfl rfl rfl rfl rfl ?_
          refine vOrd_nil ?_
          refine Wp.condF rfl rfl ?_
          refine Wp.skip ?_
          refine Wp.seq ?_
          refine Wp.seq ?_
          refine Wp.region [0, 1] (by kernel_rfl) (by kernel_rfl) ?_
          refine s_move rfl rfl rfl rfl ?_
          refine t_lss rfl rfl rfl rfl rfl (by omega) ?_
          refine vOrd_nil ?_
          refine Wp.condT rfl rfl ?_
          refine Wp.exit ?_
          have htw := tw_at (l := l.drop a) (i := i - a) hall (fun d hd => by rw [get_drop hai hc] at hd; cases hd; exact Bool.eq_false_iff.2 (fun e => by have := isD_16.1 e; omega))
          refine Wp.seq ?_
          refine Wp.region [0, 1, 2, 3, 4, 5, 6, 7, 8, 9, 10, 11, 12, 13, 14] (by kernel_rfl) (by kernel_rfl) ?_
          refine s_move rfl rfl rfl rfl ?_
          refine a_wconv rfl rfl rfl rfl rfl rfl ?_
          refine s_move rfl rfl rfl rfl ?_
          refine s_move rfl rfl rfl rfl ?_
          refine s_move rfl rfl rfl rfl ?_
          refine p_gtr rfl rfl rfl rfl rfl (fun h65 => ?_) (fun h65 => ?_)
          · refine s_move rfl rfl rfl rfl ?_
            refine s_move rfl rfl rfl rfl ?_
            refine s_move rfl rfl rfl rfl ?_
            refine a_sub (-9223372036854775808) 9223372036854775807 (by decide) rfl rfl rfl rfl rfl (by omega) (by omega) ?_
            refine t_leq rfl rfl rfl rfl rfl (by omega) ?_
            refine s_pick rfl rfl rfl rfl rfl ?_
            refine s_assign rfl rfl rfl rfl ?_
            refine s_assign rfl rfl rfl rfl ?_
            refine s_assign rfl rfl rfl rfl ?_
            refine vOrd_nil ?_
            refine Wp.ret ⟨.inr rfl, fun lW => ⟨_, ⟨_, _, _, res_tmp (P := Tryd.prog) rfl rfl, res_tmp (P := Tryd.prog) rfl rfl, res_tmp (P := Tryd.prog) rfl rfl, rfl⟩, _, rfl, ?_, lW⟩⟩
            clear lW
            obtain ⟨k1, k2, k3⟩ := word_ok htw.1 (by omega) (by rw [List.length_drop]; omega) (by omega)
            have hb8 := cnt_small16 hall (n := 8) (by rw [List.length_take]; omega)
            have hwr : IntKind.u32.wrap N = N := wrap_in .u32 (by rw [hN]; show (0 : Int) ≤ _; omega) (by rw [hN]; show _ ≤ (4294967295 : Int); omega)
            rw [k1, hwr]
            exact ⟨_, i, rfl, fun _ => ⟨by rw [k2, hN], by rw [k3]; omega⟩⟩
          · refine s_move rfl rfl rfl rfl ?_
            refine s_skip rfl rfl rfl ?_
            refine s_skip rfl rfl rfl ?_
            refine s_skip rfl rfl rfl ?_
            refine s_skip rfl rfl rfl ?_
            refine s_pick rfl rfl rfl rfl rfl ?_
            refine s_assign rfl rfl rfl rfl ?_
            refine s_assign rfl rfl rfl rfl ?_
            refine s_assign rfl rfl rfl rfl ?_
            refine vOrd_nil ?_
            refine Wp.ret ⟨.inr rfl, fun lW => ⟨_, ⟨_, _, _, res_tmp (P := Tryd.prog) rfl rfl, res_tmp (P := Tryd.prog) rfl rfl, res_tmp (P := Tryd.prog) rfl rfl, rfl⟩, _, rfl, ?_, lW⟩⟩
            clear lW
            rw [word_no0 htw.1 (by omega)]
            exact ⟨_, i, rfl, fun h => by cases h⟩
      · refine s_pick rfl rfl rfl rfl rfl ?_
        refine vOrd_nil ?_
        refine Wp.condF rfl rfl ?_
        refine Wp.exit ?_
        refine Wp.seq ?_
        refine Wp.region [0, 1, 2, 3, 4, 5, 6, 7, 8, 9, 10, 11, 12, 13, 14] (by kernel_rfl) (by kernel_rfl) ?_
        refine s_move rfl rfl rfl rfl ?_
        refine a_wconv rfl rfl rfl rfl rfl rfl ?_
        refine s_move rfl rfl rfl rfl ?_
        refine s_move rfl rfl rfl rfl ?_
        refine s_move rfl rfl rfl rfl ?_
        refine t_gtr rfl rfl rfl rfl rfl (by omega) ?_
        refine s_move rfl rfl rfl rfl ?_
        refine s_move rfl rfl rfl rfl ?_
        refine s_move rfl rfl rfl rfl ?_
        refine a_sub (-9223372036854775808) 9223372036854775807 (by decide) rfl rfl rfl rfl rfl (by omega) (by omega) ?_
        refine f_leq rfl rfl rfl rfl rfl (by omega) ?_
        refine s_pick rfl rfl rfl rfl rfl ?_
        refine s_assign rfl rfl rfl rfl ?_
        refine s_assign rfl rfl rfl rfl ?_
        refine s_assign rfl rfl rfl rfl ?_
        refine vOrd_nil ?_
        refine Wp.ret ⟨.inr rfl, fun lW => ⟨_, ⟨_, _, _, res_tmp (P := Tryd.prog) rfl rfl, res_tmp (P := Tryd.prog) rfl rfl, res_tmp (P := Tryd.prog) rfl rfl, rfl⟩, _, rfl, ?_, lW⟩⟩
        clear lW
        rw [word_big (j := i - a) hall (by omega) (by rw [List.length_drop]; omega)]
        exact ⟨_, i, rfl, fun h => by cases h⟩
    · refine s_move rfl rfl rfl rfl ?_
      refine s_skip rfl rfl rfl ?_
      refine s_skip rfl rfl rfl ?_
      refine s_skip rfl rfl rfl ?_
      refine s_skip rfl rfl rfl ?_
      refine s_pick rfl rfl rfl rfl rfl ?_
      refine vOrd_nil ?_
      refine Wp.condF rfl rfl ?_
      refine Wp.exit ?_
      have htw := tw_at (l := l.drop a) (i := i - a) hall (fun d hd => by exact (past_drop hai (by omega) hd).elim)
      refine Wp.seq ?_
      refine Wp.region [0, 1, 2, 3, 4, 5, 6, 7, 8, 9, 10, 11, 12, 13, 14] (by kernel_rfl) (by kernel_rfl) ?_
      refine s_move rfl rfl rfl rfl ?_
      refine a_wconv rfl rfl rfl rfl rfl rfl ?_
      refine s_move rfl rfl rfl rfl ?_
      refine s_move rfl rfl rfl rfl ?_
      refine s_move rfl rfl rfl rfl ?_
      refine p_gtr rfl rfl rfl rfl rfl (fun h65 => ?_) (fun h65 => ?_)
      · refine s_move rfl rfl rfl rfl ?_
        refine s_move rfl rfl rfl rfl ?_
        refine s_move rfl rfl rfl rfl ?_
        refine a_sub (-9223372036854775808) 9223372036854775807 (by decide) rfl rfl rfl rfl rfl (by omega) (by omega) ?_
        refine p_leq rfl rfl rfl rfl rfl (fun h70 => ?_) (fun h70 => ?_)
        · refine s_pick rfl rfl rfl rfl rfl ?_
          refine s_assign rfl rfl rfl rfl ?_
          refine s_assign rfl rfl rfl rfl ?_
          refine s_assign rfl rfl rfl rfl ?_
          refine vOrd_nil ?_
          refine Wp.ret ⟨.inr rfl, fun lW => ⟨_, ⟨_, _, _, res_tmp (P := Tryd.prog) rfl rfl, res_tmp (P := Tryd.prog) rfl rfl, res_tmp (P := Tryd.prog) rfl rfl, rfl⟩, _, rfl, ?_, lW⟩⟩
          clear lW
          obtain ⟨k1, k2, k3⟩ := word_ok htw.1 (by omega) (by rw [List.length_drop]; omega) (by omega)
          have hb8 := cnt_small16 hall (n := 8) (by rw [List.length_take]; omega)
          have hwr : IntKind.u32.wrap N = N := wrap_in .u32 (by rw [hN]; show (0 : Int) ≤ _; omega) (by rw [hN]; show _ ≤ (4294967295 : Int); omega)
          rw [k1, hwr]
          exact ⟨_, i, rfl, fun _ => ⟨by rw [k2, hN], by rw [k3]; omega⟩⟩
        · refine s_pick rfl rfl rfl rfl rfl ?_
          refine s_assign rfl rfl rfl rfl ?_
          refine s_assign rfl rfl rfl rfl ?_
          refine s_assign rfl rfl rfl rfl ?_
          refine vOrd_nil ?_
          refine Wp.ret ⟨.inr rfl, fun lW => ⟨_, ⟨_, _, _, res_tmp (P := Tryd.prog) rfl rfl, res_tmp (P := Tryd.prog) rfl rfl, res_tmp (P := Tryd.prog) rfl rfl, rfl⟩, _, rfl, ?_, lW⟩⟩
          clear lW
          rw [word_big (j := i - a) hall (by omega) (by rw [List.length_drop]; omega)]
          exact ⟨_, i, rfl, fun h => by cases h⟩
      · refine s_move rfl rfl rfl rfl ?_
        refine s_skip rfl rfl rfl ?_
        refine s_skip rfl rfl rfl ?_
        refine s_skip rfl rfl rfl ?_
        refine s_skip rfl rfl rfl ?_
        refine s_pick rfl rfl rfl rfl rfl ?_
        refine s_assign rfl rfl rfl rfl ?_
        refine s_assign rfl rfl rfl rfl ?_
        refine s_assign rfl rfl rfl rfl ?_
        refine vOrd_nil ?_
        refine Wp.ret ⟨.inr rfl, fun lW => ⟨_, ⟨_, _, _, res_tmp (P := Tryd.prog) rfl rfl, res_tmp (P := Tryd.prog) rfl rfl, res_tmp (P := Tryd.prog) rfl rfl, rfl⟩, _, rfl, ?_, lW⟩⟩
        clear lW
        rw [word_no0 htw.1 (by omega)]
        exact ⟨_, i, rfl, fun h => by cases h⟩
end Go.Proofs.YthjgilocbfhffaaDoor
