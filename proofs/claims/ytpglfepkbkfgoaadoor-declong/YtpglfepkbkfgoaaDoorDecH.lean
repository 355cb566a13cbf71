/-
  The walk of the law DecLong: however long a text of digits is, it is a number, or too great. No conditions.
-/
import Derived.Test.YtpglfepkbkfgoaaDoorDecG
namespace Go.Proofs.YtpglfepkbkfgoaaDoor
open Go.RowKit
set_option maxRecDepth 100000

theorem own_fresh {w w1 w2 : World} {base b : Nat} {e : TypeId} {sz : Nat} {v : Value} {n : Nat} {xs : List Value} (h : w.ownsRow base e sz v n xs) (hb : w.heap.size ≤ b) (l : Later w w1) (s : Stored b w1 w2) : w2.ownsRow base e sz v n xs := by
  refine (own_later h l).kept (grown_of_stored s) ?_
  cases c : v.ownBlock with
  | none => exact .inl rfl
  | some k =>
    right
    intro q
    simp only [Option.some.injEq] at q
    have := (h.lt k c).2
    omega
theorem rep_dig {D : UInt8} (hD : isDig D = true) : ∀ k, (List.replicate k D).all isDig = true
  | 0 => rfl
  | k + 1 => by rw [List.replicate_succ, List.all_cons, hD, rep_dig hD k]; rfl
theorem long_is {D : UInt8} (h0 : 49 ≤ D.toNat) (h1 : D.toNat ≤ 57) (m : Bool) (k : Nat) :
    isNum ((bif m then [45] else []) ++ List.replicate (k + 1) D) = true ∧ numOf ((bif m then [45] else []) ++ List.replicate (k + 1) D) = sgnI m (numD (List.replicate (k + 1) D) 0) := by
  have hD : isDig D = true := isDig_iff.2 ⟨by omega, h1⟩
  have hr := rep_dig hD (k + 1)
  have h48 : D ≠ 48 := fun e => by subst e; have : (48 : UInt8).toNat = 48 := rfl; omega
  have h45 : D ≠ 45 := fun e => by subst e; have : (45 : UInt8).toNat = 45 := rfl; omega
  have hh : (List.replicate (k + 1) D).head? = some D := by rw [List.replicate_succ]; rfl
  have hne : List.replicate (k + 1) D ≠ [] := by rw [List.replicate_succ]; simp
  cases m with
  | false =>
    simp only [cond_false, List.nil_append]
    have hb : bodyL (List.replicate (k + 1) D) = List.replicate (k + 1) D := by unfold bodyL; rw [hh, if_neg (by simpa using h45)]
    have hm : minusL (List.replicate (k + 1) D) = false := by unfold minusL; rw [hh]; simpa using h45
    refine ⟨?_, ?_⟩
    · unfold isNum; rw [hb, hr, hh]; simp [h48]
    · unfold numOf; rw [hb, hm]
  | true =>
    simp only [cond_true, List.cons_append, List.nil_append]
    have hb : bodyL (45 :: List.replicate (k + 1) D) = List.replicate (k + 1) D := by simp [bodyL]
    have hm : minusL (45 :: List.replicate (k + 1) D) = true := by simp [minusL]
    refine ⟨?_, ?_⟩
    · unfold isNum; rw [hb, hr, hh]; simp [h48]
    · unfold numOf; rw [hb, hm]
theorem long_low {D : UInt8} (h0 : 49 ≤ D.toNat) (h1 : D.toNat ≤ 57) (k : Nat) : (10 : Int) ^ k ≤ numD (List.replicate (k + 1) D) 0 ∧ numD (List.replicate (k + 1) D) 0 < 10 ^ (k + 1) := by
  have hD : isDig D = true := isDig_iff.2 ⟨by omega, h1⟩
  have hg := numD_ge (List.replicate k D) (0 * 10 + (D.toNat - 48)) (rep_dig hD k) (by omega)
  have hl := numD_lt (List.replicate (k + 1) D) 0 (rep_dig hD (k + 1)) (by omega)
  rw [List.length_replicate] at hg hl
  have e : numD (List.replicate (k + 1) D) 0 = numD (List.replicate k D) (0 * 10 + (D.toNat - 48)) := by rw [List.replicate_succ]; rfl
  have h2 : (1 : Int) * 10 ^ k ≤ (0 * 10 + (D.toNat - 48)) * 10 ^ k := Int.mul_le_mul_of_nonneg_right (by omega) (Int.pow_nonneg (by omega))
  rw [← e] at hg
  exact ⟨by omega, by omega⟩
theorem pow_up {a b : Nat} (h : a ≤ b) : (10 : Int) ^ a ≤ 10 ^ b := by
  have : (10 : Nat) ^ a ≤ 10 ^ b := Nat.pow_le_pow_right (by omega) h
  have e1 : ((10 ^ a : Nat) : Int) = (10 : Int) ^ a := by simp
  have e2 : ((10 ^ b : Nat) : Int) = (10 : Int) ^ b := by simp
  omega
/-- What is read of such a text. -/
theorem long_read {D : UInt8} (h0 : 49 ≤ D.toNat) (h1 : D.toNat ≤ 57) (m : Bool) (k : Nat) (L : List UInt8) (hL : L = (bif m then [45] else []) ++ List.replicate (k + 1) D) :
    (k < 38 → parseE L = 0) ∧ (38 < k → parseE L = 2) ∧ (parseE L = 0 ∨ parseE L = 2) ∧ (parseE L = 2 → parseV L = 0) ∧ (parseE L = 0 → parseV L = numOf L ∧ decText (numOf L) = L) := by
  obtain ⟨n1, n2⟩ := long_is h0 h1 m k
  rw [← hL] at n1 n2
  obtain ⟨l1, l2⟩ := long_low h0 h1 k
  have hE : parseE L = fitE (numOf L) := by unfold parseE; rw [if_pos n1]
  have hV : parseV L = fitV (numOf L) := by unfold parseV; rw [if_pos n1]
  have hab : numOf L = numD (List.replicate (k + 1) D) 0 ∨ numOf L = -numD (List.replicate (k + 1) D) 0 := by rw [n2]; cases m; exact .inl rfl; exact .inr rfl
  rw [hE, hV]
  have p38 : (10 : Int) ^ 38 = 100000000000000000000000000000000000000 := by decide
  have p39 : (10 : Int) ^ 39 = 1000000000000000000000000000000000000000 := by decide
  refine ⟨fun c => ?_, fun c => ?_, ?_, fun c => ?_, fun c => ?_⟩
  · have := pow_up (show k + 1 ≤ 38 by omega)
    exact (inW_yes (by omega) (by omega)).2.2
  · have := pow_up (show 39 ≤ k by omega)
    exact (inW_no (by omega)).2.2
  · by_cases q : fitE (numOf L) = 0
    · exact .inl q
    · exact .inr (fitE_two q)
  · exact (inW_no (fitE_over (by omega))).2.1
  · have q := fitE_zero c
    exact ⟨q.2, decText_of n1 (by have := pow39; omega)⟩
theorem law_long {n d : Int} (below : Bool) (n0 : 0 ≤ n) (d0 : 0 ≤ d) (w : World) :
    Calls Tryd.prog 5 #[.int .u16 n, .int .u8 d, .bool below] w fun e w' => ∃ r, e = .returned r ∧ r = .bool true ∧ Below w.heap.size w w' := by
  obtain ⟨D, hD⟩ : ∃ D : UInt8, (D.toNat : Int) = 49 + d % 9 := ⟨UInt8.ofNat (49 + d % 9).toNat, by rw [UInt8.toNat_ofNat']; omega⟩
  have hone : bytesV [D] = [.int .u8 (49 + d % 9)] := by simp only [bytesV, List.map_cons, List.map_nil, hD]
  refine calls_Wp (args := [_, _, _]) (n := 81) Tryd.func5 rfl rfl (by simp) ?_
  refine Wp.seq ?_
  refine Wp.region [0] (by kernel_rfl) (by kernel_rfl) ?_
  refine s_assign rfl rfl rfl rfl ?_
  refine vOrd_nil ?_
  refine Wp.seq ?_
  refine Wp.region [0, 1] (by kernel_rfl) (by kernel_rfl) ?_
  refine s_bs (e := 5) (cs := []) rfl rfl rfl (fun _ => by kernel_rfl) ?_
  intro c0 w0 hc0 l0 hrow0
  have hown0 : w0.ownsRow w.heap.size 5 1 (.slice (some ⟨c0, 0, none⟩) 0 0) 0 [] := own_of_row hrow0 hc0 rfl (by decide)
  have hsz0 := l0.size
  refine s_assign rfl rfl rfl rfl ?_
  refine vOrd_nil ?_
  refine Wp.seq ?_
  refine Wp.seq ?_
  refine Wp.region [0] (by kernel_rfl) (by kernel_rfl) ?_
  refine s_move rfl rfl rfl rfl ?_
  refine vOrd_nil ?_
  refine Wp.cond rfl (okOpd_spec rfl) (fun c12 => ?_) (fun c12 => ?_)
  · refine Wp.region [0, 1, 2, 3] (by kernel_rfl) (by kernel_rfl) ?_
    refine s_move rfl rfl rfl rfl ?_
    refine s_bs (e := 5) (cs := [.int .u8 45]) rfl rfl rfl (fun _ => by kernel_rfl) ?_
    intro c1 w1 hc1 l1 hrow
    have hsz1 : w.heap.size ≤ w1.heap.size := Nat.le_trans hsz0 l1.size
    refine x_append (base := w.heap.size) (sz := 1) (bs := 1) (n := 0) (xs := []) rfl rfl rfl rfl rfl rfl rfl rfl rfl rfl rfl (by decide) (own_later hown0 l1) hrow rfl rfl (by omega) (by omega) hsz1 (Nat.le_refl _) (by intro h b cs e; cases e) ?_
    intro v1 w2 hown1 hg1
    replace hown0 := hown1
    replace hsz0 := Nat.le_trans hsz1 hg1.size
    refine s_assign rfl rfl rfl rfl ?_
    refine vOrd_nil ?_
    refine Wp.seq ?_
    refine Wp.seq ?_
    refine Wp.region [0] (by kernel_rfl) (by kernel_rfl) ?_
    refine s_assign rfl rfl rfl rfl ?_
    refine vOrd_nil ?_
    refine Wp.block ?_
    refine Wp.loop (fun k st w2 => ∃ (i : Nat) (v : Value), st = St.of [(0, .v (.int .u16 n)), (1, .v (.int .u8 d)), (7, .v v), (8, .v (.int .i64 i))] [] ∧ (i : Int) ≤ n % 300 + 1 ∧ w2.ownsRow w.heap.size 5 1 v (1 + i) (bytesV ([45] ++ List.replicate i D)) ∧ w.heap.size ≤ w2.heap.size ∧ k = (n % 300 + 1 - i).toNat) ?_ ?_
    · exact ⟨_, _, (St.of_le' (env := [(0, .v _), (1, .v _), (7, .v _), (8, .v _)]) (mem := []) ⟨rfl, rfl, rfl, rfl, trivial⟩ trivial), 0, _, rfl, by omega, hown0, hsz0, rfl⟩
    · rintro k st w12 ⟨i, v, rfl, hi, hown, hsz, rfl⟩
      refine Wp.seq ?_
      refine Wp.seq ?_
      refine Wp.region [0, 1, 2, 3, 4, 5] (by kernel_rfl) (by kernel_rfl) ?_
      refine s_move rfl rfl rfl rfl ?_
      refine s_move rfl rfl rfl rfl ?_
      refine a_rem rfl rfl rfl rfl rfl (by omega) (by omega) ?_
      refine a_conv (-9223372036854775808) 9223372036854775807 (by decide) rfl rfl rfl rfl rfl rfl (by omega) (by omega) ?_
      refine a_add (-9223372036854775808) 9223372036854775807 (by decide) rfl rfl rfl rfl rfl (by omega) (by omega) ?_
      refine p_lss rfl rfl rfl rfl rfl (fun h21 => ?_) (fun h21 => ?_)
      · refine vOrd_nil ?_
        refine Wp.condT rfl rfl ?_
        refine Wp.skip ?_
        refine Wp.seq ?_
        refine Wp.block ?_
        refine Wp.region [0, 1, 2, 3, 4, 5, 6] (by kernel_rfl) (by kernel_rfl) ?_
        refine s_move rfl rfl rfl rfl ?_
        refine s_move rfl rfl rfl rfl ?_
        refine a_rem rfl rfl rfl rfl rfl (by omega) (by omega) ?_
        refine a_add (0) 255 (by decide) rfl rfl rfl rfl rfl (by omega) (by omega) ?_
        refine s_bs (e := 5) (cs := [.int .u8 (49 + d % 9)]) rfl rfl rfl (fun _ => by kernel_rfl) ?_
        intro c1 w3 hc1 l1 hrow
        have hsz1 : w.heap.size ≤ w3.heap.size := Nat.le_trans hsz l1.size
        refine x_append (base := w.heap.size) (sz := 1) (bs := 1) (n := 1 + i) (xs := bytesV ([45] ++ List.replicate i D)) rfl rfl rfl rfl rfl rfl rfl rfl rfl rfl rfl (by decide) (own_later hown l1) hrow rfl rfl (by omega) (by omega) hsz1 (Nat.le_refl _) (by intro h b cs e; cases e) ?_
        intro v1 w4 hown1 hg1
        have hown2 : w4.ownsRow w.heap.size 5 1 v1 (1 + (i + 1)) (bytesV ([45] ++ List.replicate (i + 1) D)) := by
          rw [← hone, ← bytesV_app, List.append_assoc, ← List.replicate_succ'] at hown1
          exact hown1
        have hsz2 := Nat.le_trans hsz1 hg1.size
        refine s_assign rfl rfl rfl rfl ?_
        refine vOrd_nil ?_
        refine Wp.region [0, 1, 2] (by kernel_rfl) (by kernel_rfl) ?_
        refine s_move rfl rfl rfl rfl ?_
        refine a_add (-9223372036854775808) 9223372036854775807 (by decide) rfl rfl rfl rfl rfl (by omega) (by omega) ?_
        refine s_assign rfl rfl rfl rfl ?_
        refine vOrd_nil ?_
        exact ⟨_, _, by omega, (St.of_le' (env := [(0, .v _), (1, .v _), (7, .v _), (8, .v _)]) (mem := []) ⟨rfl, rfl, rfl, rfl, trivial⟩ trivial), i + 1, _, rfl, by omega, hown2, hsz2, rfl⟩
      · refine vOrd_nil ?_
        refine Wp.condF rfl rfl ?_
        refine Wp.exit ?_
        obtain ⟨K, hK⟩ : ∃ K : Nat, n % 300 = K := ⟨(n % 300).toNat, by omega⟩
        have ei : i = K + 1 := by omega
        subst ei
        obtain ⟨L, hL⟩ : ∃ L, L = [45] ++ List.replicate (K + 1) D := ⟨_, rfl⟩
        rw [← hL] at hown
        obtain ⟨r1, r2, r3, r4, r5⟩ := long_read (D := D) (by omega) (by omega) true K L (by rw [hL]; rfl)
        have hLl : L.length ≤ 400 := by rw [hL, List.length_append, List.length_replicate]; simp; omega
        refine Wp.seq ?_
        refine Wp.region [0, 1, 2, 3, 4, 5, 6, 7, 8] (by kernel_rfl) (by kernel_rfl) ?_
        refine s_move rfl rfl rfl rfl ?_
        refine x_str rfl rfl rfl rfl rfl rfl rfl hown ?_
        refine s_callT rfl rfl rfl (by kernel_rfl) rfl (parse_any L (by omega) _) ?_
        rintro v w23 ⟨s, rfl, ah, al, rfl, ha⟩ lw23
        refine s_move rfl rfl rfl rfl ?_
        refine s_extract rfl rfl rfl rfl rfl ?_
        refine s_extract rfl rfl rfl rfl rfl ?_
        refine s_alloc rfl rfl rfl rfl rfl (fun bk24 w24 kb24 lw24 => ?_)
        refine s_store rfl rfl rfl rfl rfl rfl rfl (fun w25 sw25 vw25 => ?_)
        refine s_assign rfl rfl rfl rfl ?_
        refine vOrd_nil ?_
        refine Wp.seq ?_
        refine Wp.seq ?_
        refine Wp.region [0, 1, 2] (by kernel_rfl) (by kernel_rfl) ?_
        refine s_move rfl rfl rfl rfl ?_
        refine a_rem rfl rfl rfl rfl rfl (by omega) (by omega) ?_
        refine p_lss rfl rfl rfl rfl rfl (fun h38 => ?_) (fun h38 => ?_)
        · have eE := r1 (by omega)
          obtain ⟨eV, eT⟩ := r5 eE
          rw [eV] at ha
          have hprint : ∀ w, Calls Tryd.prog 6 #[.agg #[.int .i64 ah, .int .u64 al]] w fun e w' => ∃ r, e = .returned r ∧ r = .string ⟨⟨L⟩⟩ ∧ Below w.heap.size w w' := fun w => by have := print_any ⟨_, _, rfl, ha⟩ w; rw [eT] at this; exact this
          refine vOrd_nil ?_
          refine Wp.condT rfl rfl ?_
          refine Wp.seq ?_
          refine (Wp.drawn (by kernel_rfl) (by kernel_rfl) [0, 1, 2, 3, 4, 5, 6, 8, 9, 7, 10, 11, 12] [0, 0, 0, 0, 0, 0, 831, 255, 511, 0, 0, 0, 0] (by kernel_rfl) (by kernel_rfl) (fun | 0 => fun v _ => v = .bool true | 7 => fun v _ => v = .string ⟨⟨L⟩⟩ | _ => fun _ _ => True) (fun _ _ => ?_))
          refine s_callD rfl rfl rfl (by kernel_rfl) rfl (fun wc lc => danswers_any wc) ?_
          rintro v w26 u26 rfl lw26 mw26
          refine s_move rfl rfl rfl rfl ?_
          refine s_move rfl rfl rfl rfl ?_
          refine t_eql rfl rfl rfl rfl rfl (by exact eE) ?_
          refine s_pick rfl rfl rfl rfl rfl ?_
          refine s_move rfl rfl rfl rfl ?_
          refine s_load rfl rfl rfl rfl rfl rfl rfl ?_
          refine s_move rfl rfl rfl rfl ?_
          refine x_str (base := w.heap.size) (n := 1 + (K + 1)) (l := L) (el := 5) rfl rfl rfl rfl rfl rfl rfl (by repeat (first | exact hown | refine own_later ?_ (by assumption) | refine own_fresh ?_ (by assumption) (by assumption) (by assumption))) ?_
          refine s_callD rfl rfl rfl (by kernel_rfl) rfl (fun wc lc => hprint wc) ?_
          rintro v w28 u28 rfl lw28 mw28
          refine b_eqT rfl rfl rfl rfl rfl (rfl) ?_
          refine s_pick rfl rfl rfl rfl rfl ?_
          refine s_assign rfl rfl rfl rfl ?_
          refine vOrd_nil ?_
          refine Wp.ret ⟨.inr rfl, fun lW => ⟨_, res_tmp (P := Tryd.prog) rfl rfl, _, rfl, ?_, lW⟩⟩
          clear lW
          rfl
        · refine vOrd_nil ?_
          refine Wp.condF rfl rfl ?_
          refine Wp.skip ?_
          refine Wp.seq ?_
          refine (Wp.drawn (by kernel_rfl) (by kernel_rfl) [0, 1, 2, 3, 4, 5, 6, 7, 8, 9, 10, 11, 12, 13, 14, 15, 16, 17, 18, 19, 20, 21, 22, 24, 25, 23, 26, 27, 28, 29, 30] [0, 0, 0, 0, 0, 0, 0, 0, 0, 0, 0, 0, 0, 0, 49151, 0, 0, 0, 0, 0, 0, 0, 54525951, 16777215, 33554431, 0, 0, 0, 0, 0, 0] (by kernel_rfl) (by kernel_rfl) (fun | 0 => fun v _ => v = .bool true | 23 => fun v _ => v = .string ⟨⟨L⟩⟩ | _ => fun _ _ => True) (fun _ _ => ?_))
          refine s_callD rfl rfl rfl (by kernel_rfl) rfl (fun wc lc => danswers_any wc) ?_
          rintro v w29 u29 rfl lw29 mw29
          refine s_move rfl rfl rfl rfl ?_
          refine s_move rfl rfl rfl rfl ?_
          refine a_rem rfl rfl rfl rfl rfl (by omega) (by omega) ?_
          refine p_eql rfl rfl rfl rfl rfl (fun h55 => ?_) (fun h55 => ?_)
          · refine s_move rfl rfl rfl rfl ?_
            refine s_skip rfl rfl rfl ?_
            refine s_skip rfl rfl rfl ?_
            refine s_pick rfl rfl rfl rfl rfl ?_
            refine s_pick rfl rfl rfl rfl rfl ?_
            refine s_move rfl rfl rfl rfl ?_
            refine s_move rfl rfl rfl rfl ?_
            refine p_eql rfl rfl rfl rfl rfl (fun h63 => ?_) (fun h63 => ?_)
            · refine s_move rfl rfl rfl rfl ?_
              refine s_load rfl rfl rfl rfl rfl rfl rfl ?_
              refine s_build rfl rfl rfl rfl rfl (by kernel_rfl) ?_
              refine s_eqv (c := true) rfl rfl rfl rfl rfl (fun _ => by kernel_rfl) (fun w => by rw [run_eql_wide, eqW_same (ha.eq (r4 (by first | exact h63 | exact r2 (by omega)))) wide_0]) ?_
              refine s_pick rfl rfl rfl rfl rfl ?_
              refine s_move rfl rfl rfl rfl ?_
              refine s_skip rfl rfl rfl ?_
              refine s_skip rfl rfl rfl ?_
              refine s_skip rfl rfl rfl ?_
              refine s_skip rfl rfl rfl ?_
              refine s_skip rfl rfl rfl ?_
              refine s_skip rfl rfl rfl ?_
              refine s_skip rfl rfl rfl ?_
              refine s_skip rfl rfl rfl ?_
              refine s_skip rfl rfl rfl ?_
              refine s_pick rfl rfl rfl rfl rfl ?_
              refine s_pick rfl rfl rfl rfl rfl ?_
              refine s_assign rfl rfl rfl rfl ?_
              refine vOrd_nil ?_
              refine Wp.ret ⟨.inr rfl, fun lW => ⟨_, res_tmp (P := Tryd.prog) rfl rfl, _, rfl, ?_, lW⟩⟩
              clear lW
              rfl
            · have eE := r3.resolve_right h63
              obtain ⟨eV, eT⟩ := r5 eE
              rw [eV] at ha
              have hprint : ∀ w, Calls Tryd.prog 6 #[.agg #[.int .i64 ah, .int .u64 al]] w fun e w' => ∃ r, e = .returned r ∧ r = .string ⟨⟨L⟩⟩ ∧ Below w.heap.size w w' := fun w => by have := print_any ⟨_, _, rfl, ha⟩ w; rw [eT] at this; exact this
              refine s_move rfl rfl rfl rfl ?_
              refine s_skip rfl rfl rfl ?_
              refine s_skip rfl rfl rfl ?_
              refine s_skip rfl rfl rfl ?_
              refine s_pick rfl rfl rfl rfl rfl ?_
              refine s_move rfl rfl rfl rfl ?_
              refine s_move rfl rfl rfl rfl ?_
              refine t_eql rfl rfl rfl rfl rfl (by exact eE) ?_
              refine s_move rfl rfl rfl rfl ?_
              refine s_load rfl rfl rfl rfl rfl rfl rfl ?_
              refine s_move rfl rfl rfl rfl ?_
              refine x_str (base := w.heap.size) (n := 1 + (K + 1)) (l := L) (el := 5) rfl rfl rfl rfl rfl rfl rfl (by repeat (first | exact hown | refine own_later ?_ (by assumption) | refine own_fresh ?_ (by assumption) (by assumption) (by assumption))) ?_
              refine s_callD rfl rfl rfl (by kernel_rfl) rfl (fun wc lc => hprint wc) ?_
              rintro v w32 u32 rfl lw32 mw32
              refine b_eqT rfl rfl rfl rfl rfl (rfl) ?_
              refine s_pick rfl rfl rfl rfl rfl ?_
              refine s_pick rfl rfl rfl rfl rfl ?_
              refine s_pick rfl rfl rfl rfl rfl ?_
              refine s_assign rfl rfl rfl rfl ?_
              refine vOrd_nil ?_
              refine Wp.ret ⟨.inr rfl, fun lW => ⟨_, res_tmp (P := Tryd.prog) rfl rfl, _, rfl, ?_, lW⟩⟩
              clear lW
              rfl
          · refine s_move rfl rfl rfl rfl ?_
            refine s_move rfl rfl rfl rfl ?_
            refine t_eql rfl rfl rfl rfl rfl (by exact r2 (by omega)) ?_
            refine s_pick rfl rfl rfl rfl rfl ?_
            refine s_pick rfl rfl rfl rfl rfl ?_
            refine s_move rfl rfl rfl rfl ?_
            refine s_move rfl rfl rfl rfl ?_
            refine t_eql rfl rfl rfl rfl rfl (by exact r2 (by omega)) ?_
            refine s_move rfl rfl rfl rfl ?_
            refine s_load rfl rfl rfl rfl rfl rfl rfl ?_
            refine s_build rfl rfl rfl rfl rfl (by kernel_rfl) ?_
            refine s_eqv (c := true) rfl rfl rfl rfl rfl (fun _ => by kernel_rfl) (fun w => by rw [run_eql_wide, eqW_same (ha.eq (r4 (by first | exact h63 | exact r2 (by omega)))) wide_0]) ?_
            refine s_pick rfl rfl rfl rfl rfl ?_
            refine s_move rfl rfl rfl rfl ?_
            refine s_skip rfl rfl rfl ?_
            refine s_skip rfl rfl rfl ?_
            refine s_skip rfl rfl rfl ?_
            refine s_skip rfl rfl rfl ?_
            refine s_skip rfl rfl rfl ?_
            refine s_skip rfl rfl rfl ?_
            refine s_skip rfl rfl rfl ?_
            refine s_skip rfl rfl rfl ?_
            refine s_skip rfl rfl rfl ?_
            refine s_pick rfl rfl rfl rfl rfl ?_
            refine s_pick rfl rfl rfl rfl rfl ?_
            refine s_assign rfl rfl rfl rfl ?_
            refine vOrd_nil ?_
            refine Wp.ret ⟨.inr rfl, fun lW => ⟨_, res_tmp (P := Tryd.prog) rfl rfl, _, rfl, ?_, lW⟩⟩
            clear lW
            rfl
  · refine Wp.skip ?_
    refine Wp.seq ?_
    refine Wp.seq ?_
    refine Wp.region [0] (by kernel_rfl) (by kernel_rfl) ?_
    refine s_assign rfl rfl rfl rfl ?_
    refine vOrd_nil ?_
    refine Wp.block ?_
    refine Wp.loop (fun k st w2 => ∃ (i : Nat) (v : Value), st = St.of [(0, .v (.int .u16 n)), (1, .v (.int .u8 d)), (7, .v v), (8, .v (.int .i64 i))] [] ∧ (i : Int) ≤ n % 300 + 1 ∧ w2.ownsRow w.heap.size 5 1 v (0 + i) (bytesV ([] ++ List.replicate i D)) ∧ w.heap.size ≤ w2.heap.size ∧ k = (n % 300 + 1 - i).toNat) ?_ ?_
    · exact ⟨_, _, (St.of_le' (env := [(0, .v _), (1, .v _), (7, .v _), (8, .v _)]) (mem := []) ⟨rfl, rfl, rfl, rfl, trivial⟩ trivial), 0, _, rfl, by omega, hown0, hsz0, rfl⟩
    · rintro k st w34 ⟨i, v, rfl, hi, hown, hsz, rfl⟩
      refine Wp.seq ?_
      refine Wp.seq ?_
      refine Wp.region [0, 1, 2, 3, 4, 5] (by kernel_rfl) (by kernel_rfl) ?_
      refine s_move rfl rfl rfl rfl ?_
      refine s_move rfl rfl rfl rfl ?_
      refine a_rem rfl rfl rfl rfl rfl (by omega) (by omega) ?_
      refine a_conv (-9223372036854775808) 9223372036854775807 (by decide) rfl rfl rfl rfl rfl rfl (by omega) (by omega) ?_
      refine a_add (-9223372036854775808) 9223372036854775807 (by decide) rfl rfl rfl rfl rfl (by omega) (by omega) ?_
      refine p_lss rfl rfl rfl rfl rfl (fun h21 => ?_) (fun h21 => ?_)
      · refine vOrd_nil ?_
        refine Wp.condT rfl rfl ?_
        refine Wp.skip ?_
        refine Wp.seq ?_
        refine Wp.block ?_
        refine Wp.region [0, 1, 2, 3, 4, 5, 6] (by kernel_rfl) (by kernel_rfl) ?_
        refine s_move rfl rfl rfl rfl ?_
        refine s_move rfl rfl rfl rfl ?_
        refine a_rem rfl rfl rfl rfl rfl (by omega) (by omega) ?_
        refine a_add (0) 255 (by decide) rfl rfl rfl rfl rfl (by omega) (by omega) ?_
        refine s_bs (e := 5) (cs := [.int .u8 (49 + d % 9)]) rfl rfl rfl (fun _ => by kernel_rfl) ?_
        intro c1 w3 hc1 l1 hrow
        have hsz1 : w.heap.size ≤ w3.heap.size := Nat.le_trans hsz l1.size
        refine x_append (base := w.heap.size) (sz := 1) (bs := 1) (n := 0 + i) (xs := bytesV ([] ++ List.replicate i D)) rfl rfl rfl rfl rfl rfl rfl rfl rfl rfl rfl (by decide) (own_later hown l1) hrow rfl rfl (by omega) (by omega) hsz1 (Nat.le_refl _) (by intro h b cs e; cases e) ?_
        intro v1 w4 hown1 hg1
        have hown2 : w4.ownsRow w.heap.size 5 1 v1 (0 + (i + 1)) (bytesV ([] ++ List.replicate (i + 1) D)) := by
          rw [← hone, ← bytesV_app, List.append_assoc, ← List.replicate_succ'] at hown1
          exact hown1
        have hsz2 := Nat.le_trans hsz1 hg1.size
        refine s_assign rfl rfl rfl rfl ?_
        refine vOrd_nil ?_
        refine Wp.region [0, 1, 2] (by kernel_rfl) (by kernel_rfl) ?_
        refine s_move rfl rfl rfl rfl ?_
        refine a_add (-9223372036854775808) 9223372036854775807 (by decide) rfl rfl rfl rfl rfl (by omega) (by omega) ?_
        refine s_assign rfl rfl rfl rfl ?_
        refine vOrd_nil ?_
        exact ⟨_, _, by omega, (St.of_le' (env := [(0, .v _), (1, .v _), (7, .v _), (8, .v _)]) (mem := []) ⟨rfl, rfl, rfl, rfl, trivial⟩ trivial), i + 1, _, rfl, by omega, hown2, hsz2, rfl⟩
      · refine vOrd_nil ?_
        refine Wp.condF rfl rfl ?_
        refine Wp.exit ?_
        obtain ⟨K, hK⟩ : ∃ K : Nat, n % 300 = K := ⟨(n % 300).toNat, by omega⟩
        have ei : i = K + 1 := by omega
        subst ei
        obtain ⟨L, hL⟩ : ∃ L, L = [] ++ List.replicate (K + 1) D := ⟨_, rfl⟩
        rw [← hL] at hown
        obtain ⟨r1, r2, r3, r4, r5⟩ := long_read (D := D) (by omega) (by omega) false K L (by rw [hL]; rfl)
        have hLl : L.length ≤ 400 := by rw [hL, List.length_append, List.length_replicate, List.length_nil]; omega
        refine Wp.seq ?_
        refine Wp.region [0, 1, 2, 3, 4, 5, 6, 7, 8] (by kernel_rfl) (by kernel_rfl) ?_
        refine s_move rfl rfl rfl rfl ?_
        refine x_str rfl rfl rfl rfl rfl rfl rfl hown ?_
        refine s_callT rfl rfl rfl (by kernel_rfl) rfl (parse_any L (by omega) _) ?_
        rintro v w45 ⟨s, rfl, ah, al, rfl, ha⟩ lw45
        refine s_move rfl rfl rfl rfl ?_
        refine s_extract rfl rfl rfl rfl rfl ?_
        refine s_extract rfl rfl rfl rfl rfl ?_
        refine s_alloc rfl rfl rfl rfl rfl (fun bk46 w46 kb46 lw46 => ?_)
        refine s_store rfl rfl rfl rfl rfl rfl rfl (fun w47 sw47 vw47 => ?_)
        refine s_assign rfl rfl rfl rfl ?_
        refine vOrd_nil ?_
        refine Wp.seq ?_
        refine Wp.seq ?_
        refine Wp.region [0, 1, 2] (by kernel_rfl) (by kernel_rfl) ?_
        refine s_move rfl rfl rfl rfl ?_
        refine a_rem rfl rfl rfl rfl rfl (by omega) (by omega) ?_
        refine p_lss rfl rfl rfl rfl rfl (fun h38 => ?_) (fun h38 => ?_)
        · have eE := r1 (by omega)
          obtain ⟨eV, eT⟩ := r5 eE
          rw [eV] at ha
          have hprint : ∀ w, Calls Tryd.prog 6 #[.agg #[.int .i64 ah, .int .u64 al]] w fun e w' => ∃ r, e = .returned r ∧ r = .string ⟨⟨L⟩⟩ ∧ Below w.heap.size w w' := fun w => by have := print_any ⟨_, _, rfl, ha⟩ w; rw [eT] at this; exact this
          refine vOrd_nil ?_
          refine Wp.condT rfl rfl ?_
          refine Wp.seq ?_
          refine (Wp.drawn (by kernel_rfl) (by kernel_rfl) [0, 1, 2, 3, 4, 5, 6, 8, 9, 7, 10, 11, 12] [0, 0, 0, 0, 0, 0, 831, 255, 511, 0, 0, 0, 0] (by kernel_rfl) (by kernel_rfl) (fun | 0 => fun v _ => v = .bool true | 7 => fun v _ => v = .string ⟨⟨L⟩⟩ | _ => fun _ _ => True) (fun _ _ => ?_))
          refine s_callD rfl rfl rfl (by kernel_rfl) rfl (fun wc lc => danswers_any wc) ?_
          rintro v w48 u48 rfl lw48 mw48
          refine s_move rfl rfl rfl rfl ?_
          refine s_move rfl rfl rfl rfl ?_
          refine t_eql rfl rfl rfl rfl rfl (by exact eE) ?_
          refine s_pick rfl rfl rfl rfl rfl ?_
          refine s_move rfl rfl rfl rfl ?_
          refine s_load rfl rfl rfl rfl rfl rfl rfl ?_
          refine s_move rfl rfl rfl rfl ?_
          refine x_str (base := w.heap.size) (n := 0 + (K + 1)) (l := L) (el := 5) rfl rfl rfl rfl rfl rfl rfl (by repeat (first | exact hown | refine own_later ?_ (by assumption) | refine own_fresh ?_ (by assumption) (by assumption) (by assumption))) ?_
          refine s_callD rfl rfl rfl (by kernel_rfl) rfl (fun wc lc => hprint wc) ?_
          rintro v w50 u50 rfl lw50 mw50
          refine b_eqT rfl rfl rfl rfl rfl (rfl) ?_
          refine s_pick rfl rfl rfl rfl rfl ?_
          refine s_assign rfl rfl rfl rfl ?_
          refine vOrd_nil ?_
          refine Wp.ret ⟨.inr rfl, fun lW => ⟨_, res_tmp (P := Tryd.prog) rfl rfl, _, rfl, ?_, lW⟩⟩
          clear lW
          rfl
        · refine vOrd_nil ?_
          refine Wp.condF rfl rfl ?_
          refine Wp.skip ?_
          refine Wp.seq ?_
          refine (Wp.drawn (by kernel_rfl) (by kernel_rfl) [0, 1, 2, 3, 4, 5, 6, 7, 8, 9, 10, 11, 12, 13, 14, 15, 16, 17, 18, 19, 20, 21, 22, 24, 25, 23, 26, 27, 28, 29, 30] [0, 0, 0, 0, 0, 0, 0, 0, 0, 0, 0, 0, 0, 0, 49151, 0, 0, 0, 0, 0, 0, 0, 54525951, 16777215, 33554431, 0, 0, 0, 0, 0, 0] (by kernel_rfl) (by kernel_rfl) (fun | 0 => fun v _ => v = .bool true | 23 => fun v _ => v = .string ⟨⟨L⟩⟩ | _ => fun _ _ => True) (fun _ _ => ?_))
          refine s_callD rfl rfl rfl (by kernel_rfl) rfl (fun wc lc => danswers_any wc) ?_
          rintro v w51 u51 rfl lw51 mw51
          refine s_move rfl rfl rfl rfl ?_
          refine s_move rfl rfl rfl rfl ?_
          refine a_rem rfl rfl rfl rfl rfl (by omega) (by omega) ?_
          refine p_eql rfl rfl rfl rfl rfl (fun h55 => ?_) (fun h55 => ?_)
          · refine s_move rfl rfl rfl rfl ?_
            refine s_skip rfl rfl rfl ?_
            refine s_skip rfl rfl rfl ?_
            refine s_pick rfl rfl rfl rfl rfl ?_
            refine s_pick rfl rfl rfl rfl rfl ?_
            refine s_move rfl rfl rfl rfl ?_
            refine s_move rfl rfl rfl rfl ?_
            refine p_eql rfl rfl rfl rfl rfl (fun h63 => ?_) (fun h63 => ?_)
            · refine s_move rfl rfl rfl rfl ?_
              refine s_load rfl rfl rfl rfl rfl rfl rfl ?_
              refine s_build rfl rfl rfl rfl rfl (by kernel_rfl) ?_
              refine s_eqv (c := true) rfl rfl rfl rfl rfl (fun _ => by kernel_rfl) (fun w => by rw [run_eql_wide, eqW_same (ha.eq (r4 (by first | exact h63 | exact r2 (by omega)))) wide_0]) ?_
              refine s_pick rfl rfl rfl rfl rfl ?_
              refine s_move rfl rfl rfl rfl ?_
              refine s_skip rfl rfl rfl ?_
              refine s_skip rfl rfl rfl ?_
              refine s_skip rfl rfl rfl ?_
              refine s_skip rfl rfl rfl ?_
              refine s_skip rfl rfl rfl ?_
              refine s_skip rfl rfl rfl ?_
              refine s_skip rfl rfl rfl ?_
              refine s_skip rfl rfl rfl ?_
              refine s_skip rfl rfl rfl ?_
              refine s_pick rfl rfl rfl rfl rfl ?_
              refine s_pick rfl rfl rfl rfl rfl ?_
              refine s_assign rfl rfl rfl rfl ?_
              refine vOrd_nil ?_
              refine Wp.ret ⟨.inr rfl, fun lW => ⟨_, res_tmp (P := Tryd.prog) rfl rfl, _, rfl, ?_, lW⟩⟩
              clear lW
              rfl
            · have eE := r3.resolve_right h63
              obtain ⟨eV, eT⟩ := r5 eE
              rw [eV] at ha
              have hprint : ∀ w, Calls Tryd.prog 6 #[.agg #[.int .i64 ah, .int .u64 al]] w fun e w' => ∃ r, e = .returned r ∧ r = .string ⟨⟨L⟩⟩ ∧ Below w.heap.size w w' := fun w => by have := print_any ⟨_, _, rfl, ha⟩ w; rw [eT] at this; exact this
              refine s_move rfl rfl rfl rfl ?_
              refine s_skip rfl rfl rfl ?_
              refine s_skip rfl rfl rfl ?_
              refine s_skip rfl rfl rfl ?_
              refine s_pick rfl rfl rfl rfl rfl ?_
              refine s_move rfl rfl rfl rfl ?_
              refine s_move rfl rfl rfl rfl ?_
              refine t_eql rfl rfl rfl rfl rfl (by exact eE) ?_
              refine s_move rfl rfl rfl rfl ?_
              refine s_load rfl rfl rfl rfl rfl rfl rfl ?_
              refine s_move rfl rfl rfl rfl ?_
              refine x_str (base := w.heap.size) (n := 0 + (K + 1)) (l := L) (el := 5) rfl rfl rfl rfl rfl rfl rfl (by repeat (first | exact hown | refine own_later ?_ (by assumption) | refine own_fresh ?_ (by assumption) (by assumption) (by assumption))) ?_
              refine s_callD rfl rfl rfl (by kernel_rfl) rfl (fun wc lc => hprint wc) ?_
              rintro v w54 u54 rfl lw54 mw54
              refine b_eqT rfl rfl rfl rfl rfl (rfl) ?_
              refine s_pick rfl rfl rfl rfl rfl ?_
              refine s_pick rfl rfl rfl rfl rfl ?_
              refine s_pick rfl rfl rfl rfl rfl ?_
              refine s_assign rfl rfl rfl rfl ?_
              refine vOrd_nil ?_
              refine Wp.ret ⟨.inr rfl, fun lW => ⟨_, res_tmp (P := Tryd.prog) rfl rfl, _, rfl, ?_, lW⟩⟩
              clear lW
              rfl
          · refine s_move rfl rfl rfl rfl ?_
            refine s_move rfl rfl rfl rfl ?_
            refine t_eql rfl rfl rfl rfl rfl (by exact r2 (by omega)) ?_
            refine s_pick rfl rfl rfl rfl rfl ?_
            refine s_pick rfl rfl rfl rfl rfl ?_
            refine s_move rfl rfl rfl rfl ?_
            refine s_move rfl rfl rfl rfl ?_
            refine t_eql rfl rfl rfl rfl rfl (by exact r2 (by omega)) ?_
            refine s_move rfl rfl rfl rfl ?_
            refine s_load rfl rfl rfl rfl rfl rfl rfl ?_
            refine s_build rfl rfl rfl rfl rfl (by kernel_rfl) ?_
            refine s_eqv (c := true) rfl rfl rfl rfl rfl (fun _ => by kernel_rfl) (fun w => by rw [run_eql_wide, eqW_same (ha.eq (r4 (by first | exact h63 | exact r2 (by omega)))) wide_0]) ?_
            refine s_pick rfl rfl rfl rfl rfl ?_
            refine s_move rfl rfl rfl rfl ?_
            refine s_skip rfl rfl rfl ?_
            refine s_skip rfl rfl rfl ?_
            refine s_skip rfl rfl rfl ?_
            refine s_skip rfl rfl rfl ?_
            refine s_skip rfl rfl rfl ?_
            refine s_skip rfl rfl rfl ?_
            refine s_skip rfl rfl rfl ?_
            refine s_skip rfl rfl rfl ?_
            refine s_skip rfl rfl rfl ?_
            refine s_pick rfl rfl rfl rfl rfl ?_
            refine s_pick rfl rfl rfl rfl rfl ?_
            refine s_assign rfl rfl rfl rfl ?_
            refine vOrd_nil ?_
            refine Wp.ret ⟨.inr rfl, fun lW => ⟨_, res_tmp (P := Tryd.prog) rfl rfl, _, rfl, ?_, lW⟩⟩
            clear lW
            rfl
end Go.Proofs.YtpglfepkbkfgoaaDoor
