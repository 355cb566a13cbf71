/-
  The contract of the document's own answer for layer 10, Scan. Of lines of no more than 2^63 - 1 bytes.
-/
import Derived.Test.YthjgilocbfhffaaDoorLexR
namespace Go.Proofs.YthjgilocbfhffaaDoor
open Go.RowKit
set_option maxRecDepth 100000

theorem take1 {l : List UInt8} {c : UInt8} (h : l[0]? = some c) : l.take 1 = [c] := by
  cases l with
  | nil => cases h
  | cons d l => simp at h; subst h; rfl
theorem take2 {l : List UInt8} {c d : UInt8} (h : l[0]? = some c) (h1 : l[1]? = some d) : l.take 2 = [c, d] := by
  cases l with
  | nil => cases h
  | cons x l =>
    cases l with
    | nil => cases h1
    | cons y l => simp at h h1; subst h h1; rfl
theorem u8_of {c : UInt8} {n : Nat} (h : (c.toNat : Int) = n) (hn : n < 256 := by decide) : c = UInt8.ofNat n := UInt8.toNat_inj.1 (by rw [UInt8.toNat_ofNat', Nat.mod_eq_of_lt hn]; omega)
theorem u8_not {c d : UInt8} {n : Nat} (h : ¬ (c.toNat : Int) = n) (hd : d.toNat = n) : c ≠ d := fun e => h (by rw [e, hd])
section
variable {l : List UInt8} {c0 c1 : UInt8}
theorem scan_note1 (e0 : ¬ aB l = []) (h0 : l[0]? = some c0) (k0 : (c0.toNat : Int) = 35) (hl : l.length = 1) : scanL l = some (lineC 1 0 0 z5) := by
  have hc := u8_of (n := 35) k0
  have h2 : ∀ a b : UInt8, ¬ l.take 2 = [a, b] := fun a b e => by have := congrArg List.length e; rw [List.length_take] at this; simp at this; omega
  unfold scanL
  rw [if_neg e0, if_neg (h2 _ _), if_neg (h2 _ _), if_neg (h2 _ _), if_pos (by rw [take1 h0, hc]; rfl)]
theorem scan_note2 (e0 : ¬ aB l = []) (h0 : l[0]? = some c0) (k0 : (c0.toNat : Int) = 35) (h1 : l[1]? = some c1) (k1 : ¬ (c1.toNat : Int) = 36) (k2 : ¬ (c1.toNat : Int) = 64) (k3 : ¬ (c1.toNat : Int) = 104) : scanL l = some (lineC 1 0 0 z5) := by
  have hc := u8_of (n := 35) k0
  unfold scanL
  rw [if_neg e0, take2 h0 h1, if_neg (fun e => u8_not (n := 36) k1 (d := 36) rfl (by simp at e; exact e.2)), if_neg (fun e => u8_not (n := 64) k2 (d := 64) rfl (by simp at e; exact e.2)), if_neg (fun e => u8_not (n := 104) k3 (d := 104) rfl (by simp at e; exact e.2)), if_pos (by rw [take1 h0, hc]; rfl)]
theorem scan_two (e0 : ¬ aB l = []) (h0 : l[0]? = some c0) (k0 : (c0.toNat : Int) = 35) (h1 : l[1]? = some c1) (k1 : (c1.toNat : Int) = 36) : scanL l = stampL 2 (l.drop 2) := by
  have hc := u8_of (n := 35) k0
  have hd := u8_of (n := 36) k1
  unfold scanL
  rw [if_neg e0, if_pos (by rw [take2 h0 h1, hc, hd]; rfl)]
theorem scan_three (e0 : ¬ aB l = []) (h0 : l[0]? = some c0) (k0 : (c0.toNat : Int) = 35) (h1 : l[1]? = some c1) (k1 : (c1.toNat : Int) = 64) : scanL l = stampL 3 (l.drop 2) := by
  have hc := u8_of (n := 35) k0
  have hd := u8_of (n := 64) k1
  unfold scanL
  rw [if_neg e0, take2 h0 h1, hc, hd, if_neg (by decide), if_pos (by rfl)]
theorem scan_hash (e0 : ¬ aB l = []) (h0 : l[0]? = some c0) (k0 : (c0.toNat : Int) = 35) (h1 : l[1]? = some c1) (k1 : (c1.toNat : Int) = 104) : scanL l = hashL (l.drop 2) := by
  have hc := u8_of (n := 35) k0
  have hd := u8_of (n := 104) k1
  unfold scanL
  rw [if_neg e0, take2 h0 h1, hc, hd, if_neg (by decide), if_neg (by decide), if_pos (by rfl)]
theorem scan_data (e0 : ¬ aB l = []) (h0 : l[0]? = some c0) (k0 : ¬ (c0.toNat : Int) = 35) : scanL l = dataL l := by
  have hc := u8_not (n := 35) k0 (d := 35) rfl
  have h2 : ∀ b : UInt8, ¬ l.take 2 = [35, b] := fun b e => by
    have h3 := congrArg List.head? e
    rw [List.head?_take, if_neg (by decide), List.head?_eq_getElem?, h0] at h3
    simp at h3
    exact hc h3
  unfold scanL
  rw [if_neg e0, if_neg (h2 _), if_neg (h2 _), if_neg (h2 _), if_neg (by rw [take1 h0]; simpa using hc)]
end
theorem hBad_mono {l : List UInt8} {n : Nat} (h : hBad n l = true) : ∀ m, hBad (n + m) l = true
  | 0 => h
  | m + 1 => by rw [← Nat.add_assoc, hBad, hBad_mono h m]; rfl
theorem hash_no {l : List UInt8} {n : Nat} (hn : n < 5) (h : hBad (n + 1) l = true) : hashL l = none := by
  have h1 := hBad_mono h (4 - n)
  rw [show n + 1 + (4 - n) = 5 by omega] at h1
  unfold hashL hOk
  rw [h1]; rfl
theorem drop_dT {base : Nat} {l r : List UInt8} {a : Nat} (h : l.drop a = r) : l.drop (a + (dT base r).length) = dR base r := by rw [← List.drop_drop, h, dT, tw_drop]; rfl
theorem dT_le {base : Nat} {l r : List UInt8} {a : Nat} (ha : a ≤ l.length) (h : l.drop a = r) : a + (dT base r).length ≤ l.length := by
  have h1 := tw_len (isD base) r
  have h2 := congrArg List.length h
  rw [List.length_drop] at h2
  unfold dT
  omega
theorem refscan_any (l : List UInt8) (hl : l.length ≤ 9223372036854775807) (w : World) :
    Calls Tryd.prog 32 #[.string ⟨⟨l⟩⟩] w fun e w' => ∃ r, e = .returned r ∧ (∃ (cs : List Value) (ok : Bool), r = .tuple #[.agg cs.toArray, .bool ok] ∧ (scanL l).isSome = ok ∧ (ok = true → scanL l = some cs) ∧ isLine cs) ∧ Below w.heap.size w w' := by
  refine calls_Wp (args := [_]) (n := 179) Tryd.func32 rfl rfl (by simp) ?_
  refine Wp.seq ?_
  refine Wp.region [0, 1] (by kernel_rfl) (by kernel_rfl) ?_
  refine s_alloc rfl rfl rfl rfl rfl (fun b2 wb2 kb2 lb2 => ?_)
  refine s_assign rfl rfl rfl rfl ?_
  refine vOrd_nil ?_
  refine Wp.seq ?_
  refine Wp.seq ?_
  obtain ⟨Z0, hZ0⟩ : ∃ Z0, Z0 = 0 + ((l.drop 0).takeWhile isBl).length := ⟨_, rfl⟩
  have Z0l : Z0 ≤ l.length := by rw [hZ0]; exact at_le _ (Nat.zero_le _)
  refine Wp.region [0, 1, 2, 3, 4] (by kernel_rfl) (by kernel_rfl) ?_
  refine s_move rfl rfl rfl rfl ?_
  refine s_callT rfl rfl rfl (by kernel_rfl) rfl (refblanks_any l 0 (Nat.zero_le _) hl Z0 hZ0 _) ?_
  rintro v w2 rfl lw2
  refine s_move rfl rfl rfl rfl ?_
  refine b_len rfl rfl rfl rfl rfl ?_
  refine p_eql rfl rfl rfl rfl rfl (fun h27 => ?_) (fun h27 => ?_)
  · have e0 : aB l = [] := (at_end (Nat.zero_le _) hZ0).1 (by omega)
    have hsc : scanL l = some (lineC 1 0 0 z5) := by unfold scanL; rw [if_pos e0]
    refine vOrd_nil ?_
    refine Wp.condT rfl rfl ?_
    refine Wp.seq ?_
    refine Wp.region [0, 1, 2] (by kernel_rfl) (by kernel_rfl) ?_
    refine s_build rfl rfl rfl rfl rfl (by kernel_rfl) ?_
    refine s_store rfl rfl rfl rfl rfl rfl rfl (fun w3 sw3 vw3 => ?_)
    refine s_assign rfl rfl rfl rfl ?_
    refine vOrd_nil ?_
    refine Wp.ret ⟨.inr rfl, fun lW => ⟨_, ⟨_, _, res_cell rfl rfl rfl rfl, res_tmp (P := Tryd.prog) rfl rfl, rfl⟩, _, rfl, ?_, lW⟩⟩
    clear lW
    exact ⟨lineC 1 0 0 z5, true, rfl, by rw [hsc]; rfl, fun _ => hsc, scanL_form hsc⟩
  · have e0 : ¬ aB l = [] := fun e => h27 (by rw [(at_end (Nat.zero_le _) hZ0).2 e])
    have hpos : 0 < l.length := by have := aB_len l; have h2 := List.length_pos_iff.2 e0; omega
    obtain ⟨c0, hc0⟩ := get_some (l := l) (i := 0) hpos
    clear hZ0 Z0l h27
    refine vOrd_nil ?_
    refine Wp.condF rfl rfl ?_
    refine Wp.skip ?_
    refine Wp.seq ?_
    refine Wp.seq ?_
    refine Wp.region [0, 1, 2, 3, 4, 5, 6, 7, 8, 9, 10, 11, 12, 13, 14, 15, 16, 17, 18, 19, 20, 21, 22] (by kernel_rfl) (by kernel_rfl) ?_
    refine s_move rfl rfl rfl rfl ?_
    refine b_byte rfl rfl rfl rfl rfl rfl (by omega) (hc0) ?_
    refine p_eql rfl rfl rfl rfl rfl (fun h31 => ?_) (fun h31 => ?_)
    · refine s_move rfl rfl rfl rfl ?_
      refine s_move rfl rfl rfl rfl ?_
      refine b_len rfl rfl rfl rfl rfl ?_
      refine p_eql rfl rfl rfl rfl rfl (fun h35 => ?_) (fun h35 => ?_)
      · have hsc := scan_note1 e0 hc0 h31 (by omega)
        refine s_move rfl rfl rfl rfl ?_
        refine s_skip rfl rfl rfl ?_
        refine s_skip rfl rfl rfl ?_
        refine s_skip rfl rfl rfl ?_
        refine s_skip rfl rfl rfl ?_
        refine s_skip rfl rfl rfl ?_
        refine s_skip rfl rfl rfl ?_
        refine s_skip rfl rfl rfl ?_
        refine s_skip rfl rfl rfl ?_
        refine s_skip rfl rfl rfl ?_
        refine s_skip rfl rfl rfl ?_
        refine s_skip rfl rfl rfl ?_
        refine s_skip rfl rfl rfl ?_
        refine s_skip rfl rfl rfl ?_
        refine s_pick rfl rfl rfl rfl rfl ?_
        refine s_pick rfl rfl rfl rfl rfl ?_
        refine vOrd_nil ?_
        refine Wp.condT rfl rfl ?_
        refine Wp.seq ?_
        refine Wp.region [0, 1, 2] (by kernel_rfl) (by kernel_rfl) ?_
        refine s_build rfl rfl rfl rfl rfl (by kernel_rfl) ?_
        refine s_store rfl rfl rfl rfl rfl rfl rfl (fun w4 sw4 vw4 => ?_)
        refine s_assign rfl rfl rfl rfl ?_
        refine vOrd_nil ?_
        refine Wp.ret ⟨.inr rfl, fun lW => ⟨_, ⟨_, _, res_cell rfl rfl rfl rfl, res_tmp (P := Tryd.prog) rfl rfl, rfl⟩, _, rfl, ?_, lW⟩⟩
        clear lW
        exact ⟨lineC 1 0 0 z5, true, rfl, by rw [hsc]; rfl, fun _ => hsc, scanL_form hsc⟩
      · obtain ⟨c1, hc1⟩ := get_some (l := l) (i := 1) (by omega)
        have hl2 : 2 ≤ l.length := by omega
        refine s_move rfl rfl rfl rfl ?_
        refine s_move rfl rfl rfl rfl ?_
        refine b_byte rfl rfl rfl rfl rfl rfl (by omega) (hc1) ?_
        refine p_neq rfl rfl rfl rfl rfl (fun h39 => ?_) (fun h39 => ?_)
        · refine s_move rfl rfl rfl rfl ?_
          refine s_move rfl rfl rfl rfl ?_
          refine b_byte rfl rfl rfl rfl rfl rfl (by omega) (hc1) ?_
          refine p_neq rfl rfl rfl rfl rfl (fun h43 => ?_) (fun h43 => ?_)
          · refine s_pick rfl rfl rfl rfl rfl ?_
            refine s_move rfl rfl rfl rfl ?_
            refine s_move rfl rfl rfl rfl ?_
            refine b_byte rfl rfl rfl rfl rfl rfl (by omega) (hc1) ?_
            refine p_neq rfl rfl rfl rfl rfl (fun h48 => ?_) (fun h48 => ?_)
            · have hsc := scan_note2 e0 hc0 h31 hc1 h39 h43 h48
              refine s_pick rfl rfl rfl rfl rfl ?_
              refine s_pick rfl rfl rfl rfl rfl ?_
              refine s_pick rfl rfl rfl rfl rfl ?_
              refine vOrd_nil ?_
              refine Wp.condT rfl rfl ?_
              refine Wp.seq ?_
              refine Wp.region [0, 1, 2] (by kernel_rfl) (by kernel_rfl) ?_
              refine s_build rfl rfl rfl rfl rfl (by kernel_rfl) ?_
              refine s_store rfl rfl rfl rfl rfl rfl rfl (fun w5 sw5 vw5 => ?_)
              refine s_assign rfl rfl rfl rfl ?_
              refine vOrd_nil ?_
              refine Wp.ret ⟨.inr rfl, fun lW => ⟨_, ⟨_, _, res_cell rfl rfl rfl rfl, res_tmp (P := Tryd.prog) rfl rfl, rfl⟩, _, rfl, ?_, lW⟩⟩
              clear lW
              exact ⟨lineC 1 0 0 z5, true, rfl, by rw [hsc]; rfl, fun _ => hsc, scanL_form hsc⟩
            · have hsc := scan_hash e0 hc0 h31 hc1 h48
              refine s_pick rfl rfl rfl rfl rfl ?_
              refine s_pick rfl rfl rfl rfl rfl ?_
              refine s_pick rfl rfl rfl rfl rfl ?_
              refine vOrd_nil ?_
              refine Wp.condF rfl rfl ?_
              refine Wp.skip ?_
              refine Wp.seq ?_
              refine Wp.seq ?_
              refine Wp.region [0, 1, 2, 3, 4, 5, 6, 7] (by kernel_rfl) (by kernel_rfl) ?_
              refine s_move rfl rfl rfl rfl ?_
              refine b_byte rfl rfl rfl rfl rfl rfl (by omega) (hc0) ?_
              refine t_eql rfl rfl rfl rfl rfl (by exact h31) ?_
              refine s_move rfl rfl rfl rfl ?_
              refine s_move rfl rfl rfl rfl ?_
              refine b_byte rfl rfl rfl rfl rfl rfl (by omega) (hc1) ?_
              refine t_eql rfl rfl rfl rfl rfl (by omega) ?_
              refine s_pick rfl rfl rfl rfl rfl ?_
              refine vOrd_nil ?_
              refine Wp.condT rfl rfl ?_
              refine Wp.seq ?_
              refine Wp.region [0, 1, 2] (by kernel_rfl) (by kernel_rfl) ?_
              refine s_build rfl rfl rfl rfl rfl (by kernel_rfl) ?_
              refine s_alloc rfl rfl rfl rfl rfl (fun b4 wb4 kb4 lb4 => ?_)
              refine s_store rfl rfl rfl rfl rfl rfl rfl (fun w7 sw7 vw7 => ?_)
              refine vOrd_nil ?_
              refine Wp.seq ?_
              refine Wp.region [0] (by kernel_rfl) (by kernel_rfl) ?_
              refine s_assign rfl rfl rfl rfl ?_
              refine vOrd_nil ?_
              refine Wp.seq ?_
              refine Wp.seq ?_
              refine Wp.region [0] (by kernel_rfl) (by kernel_rfl) ?_
              refine s_assign rfl rfl rfl rfl ?_
              refine vOrd_nil ?_
              refine Wp.block ?_
              refine Wp.loop (fun k st _ => ∃ (n a : Nat), st = St.of [(0, .v (.string ⟨⟨l⟩⟩)), (2, .p 2 b2 0), (4, .p 4 b4 0), (5, .v (.int .i64 (a : Int))), (6, .v (.int .i64 (n : Int)))] [(2, b2, zeroC), (4, b4, lineC 4 0 0 (hWs n (l.drop 2)))] ∧ a ≤ l.length ∧ l.drop a = hLeft n (l.drop 2) ∧ hBad n (l.drop 2) = false ∧ n ≤ 5 ∧ k = 5 - n) ?_ ?_
              · exact ⟨_, _, (St.of_le' (env := [(0, .v _), (2, .p 2 _ 0), (4, .p 4 _ 0), (5, .v _), (6, .v _)]) (mem := [(2, _, _), (4, _, _)]) ⟨rfl, rfl, rfl, rfl, rfl, trivial⟩ ⟨rfl, rfl, trivial⟩), 0, 2, rfl, hl2, rfl, rfl, by omega, rfl⟩
              · rintro k st w8 ⟨n, a, rfl, ha, had, hnb, hn, rfl⟩
                refine Wp.seq ?_
                refine Wp.seq ?_
                refine Wp.region [0, 1] (by kernel_rfl) (by kernel_rfl) ?_
                refine s_move rfl rfl rfl rfl ?_
                refine p_lss rfl rfl rfl rfl rfl (fun h63 => ?_) (fun h63 => ?_)
                · refine vOrd_nil ?_
                  refine Wp.condT rfl rfl ?_
                  refine Wp.skip ?_
                  refine Wp.seq ?_
                  refine Wp.block ?_
                  refine Wp.seq ?_
                  obtain ⟨A, hA⟩ : ∃ A, A = a + ((l.drop a).takeWhile isBl).length := ⟨_, rfl⟩
                  have Al : A ≤ l.length := by rw [hA]; exact at_le _ ha
                  have hAd : l.drop A = aB (hLeft n (l.drop 2)) := by rw [hA, drop_tw, had]; rfl
                  refine Wp.region [0, 1, 2, 3] (by kernel_rfl) (by kernel_rfl) ?_
                  refine s_move rfl rfl rfl rfl ?_
                  refine s_move rfl rfl rfl rfl ?_
                  refine s_callT rfl rfl rfl (by kernel_rfl) rfl (refblanks_any l a ha hl A hA _) ?_
                  rintro v w9 rfl lw9
                  refine s_assign rfl rfl rfl rfl ?_
                  refine vOrd_nil ?_
                  refine Wp.seq ?_
                  refine Wp.region [0, 1, 2, 3, 4, 5, 6, 7, 8, 9] (by kernel_rfl) (by kernel_rfl) ?_
                  refine s_move rfl rfl rfl rfl ?_
                  refine s_move rfl rfl rfl rfl ?_
                  refine s_callT rfl rfl rfl (by kernel_rfl) rfl (refword_any l A (aB (hLeft n (l.drop 2))) Al hAd hl _) ?_
                  rintro v w10 ⟨wv, a1, rfl, hwd⟩ lw10
                  rcases Bool.eq_false_or_eq_true (!dgBad 16 8 (aB (hLeft n (l.drop 2)))) with h72 | h72
                  · rw [h72]
                    have hdb : dgBad 16 8 (aB (hLeft n (l.drop 2))) = false := by simpa using h72
                    obtain ⟨rfl, ha1⟩ := hwd hdb
                    have a1l : a1 ≤ l.length := by rw [ha1]; exact dT_le Al hAd
                    have a1d : l.drop a1 = hLeft (n + 1) (l.drop 2) := by rw [ha1]; exact drop_dT hAd
                    refine s_move rfl rfl rfl rfl ?_
                    refine s_extract rfl rfl rfl rfl rfl ?_
                    refine s_extract rfl rfl rfl rfl rfl ?_
                    refine s_extract rfl rfl rfl rfl rfl ?_
                    refine s_assign rfl rfl rfl rfl ?_
                    refine s_assign rfl rfl rfl rfl ?_
                    refine s_assign rfl rfl rfl rfl ?_
                    refine vOrd_nil ?_
                    refine Wp.seq ?_
                    refine Wp.seq ?_
                    refine Wp.region [0, 1, 2, 3, 4, 5, 6] (by kernel_rfl) (by kernel_rfl) ?_
                    refine s_move rfl rfl rfl rfl ?_
                    refine s_move rfl rfl rfl rfl ?_
                    refine p_eql rfl rfl rfl rfl rfl (fun h78 => ?_) (fun h78 => ?_)
                    · refine s_move rfl rfl rfl rfl ?_
                      refine s_skip rfl rfl rfl ?_
                      refine s_skip rfl rfl rfl ?_
                      refine s_pick rfl rfl rfl rfl rfl ?_
                      refine vOrd_nil ?_
                      refine Wp.condT rfl rfl ?_
                      refine Wp.seq ?_
                      refine Wp.region [0, 1, 2] (by kernel_rfl) (by kernel_rfl) ?_
                      refine s_build rfl rfl rfl rfl rfl (by kernel_rfl) ?_
                      refine s_store rfl rfl rfl rfl rfl rfl rfl (fun w11 sw11 vw11 => ?_)
                      refine s_assign rfl rfl rfl rfl ?_
                      refine vOrd_nil ?_
                      refine Wp.ret ⟨.inr rfl, fun lW => ⟨_, ⟨_, _, res_cell rfl rfl rfl rfl, res_tmp (P := Tryd.prog) rfl rfl, rfl⟩, _, rfl, ?_, lW⟩⟩
                      clear lW
                      have hb1 : hBad (n + 1) (l.drop 2) = true := by rw [hBad, show nB (hLeft n (l.drop 2)) = true from decide_eq_true (by rw [← had]; exact (none_at hA).2 (by omega))]; simp
                      rw [hash_no (by omega) hb1] at hsc
                      exact ⟨_, false, rfl, by rw [hsc]; rfl, (fun h => by cases h), by first | exact zero_line | exact isLine_of (hWs_len (Nat.le_refl 5) _)⟩
                    · refine s_move rfl rfl rfl rfl ?_
                      refine s_move rfl rfl rfl rfl ?_
                      refine s_not rfl rfl rfl rfl ?_
                      refine s_pick rfl rfl rfl rfl rfl ?_
                      refine vOrd_nil ?_
                      refine Wp.condF rfl rfl ?_
                      refine Wp.skip ?_
                      have hbad1 : hBad (n + 1) (l.drop 2) = false := by rw [hBad, hnb, hdb, show nB (hLeft n (l.drop 2)) = false from decide_eq_false (fun e => h78 (by rw [← had] at e; have := (none_at hA).1 e; omega))]; rfl
                      refine Wp.region [0, 1, 2, 3, 4, 5, 6] (by kernel_rfl) (by kernel_rfl) ?_
                      refine s_move rfl rfl rfl rfl ?_
                      refine s_move rfl rfl rfl rfl ?_
                      refine s_move rfl rfl rfl rfl ?_
                      refine s_field 3 rfl rfl rfl rfl rfl ?_
                      refine s_idxO (sz := 1) (3 + (n) * 1) rfl rfl rfl rfl rfl rfl rfl (by omega) (by omega) (by omega) ?_
                      refine s_storeS rfl rfl rfl rfl rfl rfl (write_word rfl (by omega)) (fun ws12 ss12 vs12 => ?_)
                      refine s_assign rfl rfl rfl rfl ?_
                      refine vOrd_nil ?_
                      refine Wp.region [0, 1, 2] (by kernel_rfl) (by kernel_rfl) ?_
                      refine s_move rfl rfl rfl rfl ?_
                      refine a_add (-9223372036854775808) 9223372036854775807 (by decide) rfl rfl rfl rfl rfl (by omega) (by omega) ?_
                      refine s_assign rfl rfl rfl rfl ?_
                      refine vOrd_nil ?_
                      exact ⟨_, _, by omega, (St.of_le' (env := [(0, .v _), (2, .p 2 _ 0), (4, .p 4 _ 0), (5, .v _), (6, .v _)]) (mem := [(2, _, _), (4, _, _)]) ⟨rfl, rfl, rfl, rfl, rfl, trivial⟩ ⟨rfl, rfl, trivial⟩), n + 1, a1, rfl, a1l, a1d, hbad1, by omega, rfl⟩
                  · rw [h72]
                    have hdb : dgBad 16 8 (aB (hLeft n (l.drop 2))) = true := by simpa using h72
                    refine s_move rfl rfl rfl rfl ?_
                    refine s_extract rfl rfl rfl rfl rfl ?_
                    refine s_extract rfl rfl rfl rfl rfl ?_
                    refine s_extract rfl rfl rfl rfl rfl ?_
                    refine s_assign rfl rfl rfl rfl ?_
                    refine s_assign rfl rfl rfl rfl ?_
                    refine s_assign rfl rfl rfl rfl ?_
                    refine vOrd_nil ?_
                    refine Wp.seq ?_
                    refine Wp.seq ?_
                    refine Wp.region [0, 1, 2, 3, 4, 5, 6] (by kernel_rfl) (by kernel_rfl) ?_
                    refine s_move rfl rfl rfl rfl ?_
                    refine s_move rfl rfl rfl rfl ?_
                    refine p_eql rfl rfl rfl rfl rfl (fun h78 => ?_) (fun h78 => ?_)
                    · refine s_move rfl rfl rfl rfl ?_
                      refine s_skip rfl rfl rfl ?_
                      refine s_skip rfl rfl rfl ?_
                      refine s_pick rfl rfl rfl rfl rfl ?_
                      refine vOrd_nil ?_
                      refine Wp.condT rfl rfl ?_
                      refine Wp.seq ?_
                      refine Wp.region [0, 1, 2] (by kernel_rfl) (by kernel_rfl) ?_
                      refine s_build rfl rfl rfl rfl rfl (by kernel_rfl) ?_
                      refine s_store rfl rfl rfl rfl rfl rfl rfl (fun w13 sw13 vw13 => ?_)
                      refine s_assign rfl rfl rfl rfl ?_
                      refine vOrd_nil ?_
                      refine Wp.ret ⟨.inr rfl, fun lW => ⟨_, ⟨_, _, res_cell rfl rfl rfl rfl, res_tmp (P := Tryd.prog) rfl rfl, rfl⟩, _, rfl, ?_, lW⟩⟩
                      clear lW
                      have hb1 : hBad (n + 1) (l.drop 2) = true := by rw [hBad, show nB (hLeft n (l.drop 2)) = true from decide_eq_true (by rw [← had]; exact (none_at hA).2 (by omega))]; simp
                      rw [hash_no (by omega) hb1] at hsc
                      exact ⟨_, false, rfl, by rw [hsc]; rfl, (fun h => by cases h), by first | exact zero_line | exact isLine_of (hWs_len (Nat.le_refl 5) _)⟩
                    · refine s_move rfl rfl rfl rfl ?_
                      refine s_move rfl rfl rfl rfl ?_
                      refine s_not rfl rfl rfl rfl ?_
                      refine s_pick rfl rfl rfl rfl rfl ?_
                      refine vOrd_nil ?_
                      refine Wp.condT rfl rfl ?_
                      refine Wp.seq ?_
                      refine Wp.region [0, 1, 2] (by kernel_rfl) (by kernel_rfl) ?_
                      refine s_build rfl rfl rfl rfl rfl (by kernel_rfl) ?_
                      refine s_store rfl rfl rfl rfl rfl rfl rfl (fun w14 sw14 vw14 => ?_)
                      refine s_assign rfl rfl rfl rfl ?_
                      refine vOrd_nil ?_
                      refine Wp.ret ⟨.inr rfl, fun lW => ⟨_, ⟨_, _, res_cell rfl rfl rfl rfl, res_tmp (P := Tryd.prog) rfl rfl, rfl⟩, _, rfl, ?_, lW⟩⟩
                      clear lW
                      have hb1 : hBad (n + 1) (l.drop 2) = true := by rw [hBad, hdb]; simp
                      rw [hash_no (by omega) hb1] at hsc
                      exact ⟨_, false, rfl, by rw [hsc]; rfl, (fun h => by cases h), by first | exact zero_line | exact isLine_of (hWs_len (Nat.le_refl 5) _)⟩
                · have hn5 : n = 5 := by omega
                  subst hn5
                  refine vOrd_nil ?_
                  refine Wp.condF rfl rfl ?_
                  refine Wp.exit ?_
                  refine Wp.seq ?_
                  obtain ⟨A, hA⟩ : ∃ A, A = a + ((l.drop a).takeWhile isBl).length := ⟨_, rfl⟩
                  have Al : A ≤ l.length := by rw [hA]; exact at_le _ ha
                  refine (Wp.drawn3 (by kernel_rfl) (by kernel_rfl) [0, 1, 2, 4] [126, 53, 51, 143] [5, 3, 6, 7, 8] [0, 191, 0, 0] [3] [] [5, 6, 7, 8] [191, 0, 0] [7, 5, 6, 8] [0, 0, 0] (by kernel_rfl) (by kernel_rfl) (fun | 3 => fun v _ => v = .int .i64 (A : Int) | 5 => fun v _ => v = .int .i64 (l.length : Int) | _ => fun _ _ => True) (fun _ _ => ?_))
                  refine s_loadS rfl rfl rfl rfl rfl (read_all rfl rfl (lineC_len (hWs_len (Nat.le_refl 5) _))) ?_
                  refine s_move rfl rfl rfl rfl ?_
                  refine s_move rfl rfl rfl rfl ?_
                  refine s_move rfl rfl rfl rfl ?_
                  refine vOrd_nil ⟨?_, ?_⟩
                  · refine b_lenD rfl rfl rfl rfl rfl (fun _ => rfl) (fun _ _ h => h) (fun w9 lw9 => ?_)
                    refine s_callD rfl rfl rfl (by kernel_rfl) rfl (fun wc lc => refblanks_any l a ha hl A hA wc) ?_
                    rintro v w17 u17 rfl lw17 mw17
                    refine p_eql rfl rfl rfl rfl rfl (fun h95 => ?_) (fun h95 => ?_)
                    · refine s_storeS rfl rfl rfl rfl rfl rfl (write_all rfl rfl (lineC_len (hWs_len (Nat.le_refl 5) _)) (lineC_one _ _ _ _)) (fun ws18 ss18 vs18 => ?_)
                      refine s_assign rfl rfl rfl rfl ?_
                      refine vOrd_nil ?_
                      refine Wp.ret ⟨.inr rfl, fun lW => ⟨_, ⟨_, _, res_cellS rfl rfl (read_all rfl rfl (lineC_len (hWs_len (Nat.le_refl 5) _))), res_tmp (P := Tryd.prog) rfl rfl, rfl⟩, _, rfl, ?_, lW⟩⟩
                      clear lW
                      have hs : hOk (l.drop 2) = true := by unfold hOk; rw [hnb, decide_eq_true (p := aB (hLeft 5 (l.drop 2)) = []) (by rw [← had]; exact (at_end ha hA).1 (by omega))]; rfl
                      rw [show hashL (l.drop 2) = some (lineC 4 0 0 (hWs 5 (l.drop 2))) by unfold hashL; rw [if_pos hs]] at hsc
                      exact ⟨_, true, rfl, by rw [hsc]; rfl, fun _ => hsc, scanL_form hsc⟩
                    · refine s_storeS rfl rfl rfl rfl rfl rfl (write_all rfl rfl (lineC_len (hWs_len (Nat.le_refl 5) _)) (lineC_one _ _ _ _)) (fun ws19 ss19 vs19 => ?_)
                      refine s_assign rfl rfl rfl rfl ?_
                      refine vOrd_nil ?_
                      refine Wp.ret ⟨.inr rfl, fun lW => ⟨_, ⟨_, _, res_cellS rfl rfl (read_all rfl rfl (lineC_len (hWs_len (Nat.le_refl 5) _))), res_tmp (P := Tryd.prog) rfl rfl, rfl⟩, _, rfl, ?_, lW⟩⟩
                      clear lW
                      have hs : hOk (l.drop 2) = false := by unfold hOk; rw [decide_eq_false (p := aB (hLeft 5 (l.drop 2)) = []) (fun e => h95 (by rw [(at_end ha hA).2 (by rw [had]; exact e)])), Bool.and_false]
                      rw [show hashL (l.drop 2) = none by unfold hashL; rw [if_neg (by rw [hs]; decide)]] at hsc
                      exact ⟨_, false, rfl, by rw [hsc]; rfl, (fun h => by cases h), by first | exact zero_line | exact isLine_of (hWs_len (Nat.le_refl 5) _)⟩
                  · refine s_callD rfl rfl rfl (by kernel_rfl) rfl (fun wc lc => refblanks_any l a ha hl A hA wc) ?_
                    rintro v w20 u20 rfl lw20 mw20
                    refine vOrd_nil ⟨?_, ?_⟩
                    · refine b_lenD rfl rfl rfl rfl rfl (fun _ => rfl) (fun _ _ h => h) (fun w9 lw9 => ?_)
                      refine p_eql rfl rfl rfl rfl rfl (fun h95 => ?_) (fun h95 => ?_)
                      · refine s_storeS rfl rfl rfl rfl rfl rfl (write_all rfl rfl (lineC_len (hWs_len (Nat.le_refl 5) _)) (lineC_one _ _ _ _)) (fun ws22 ss22 vs22 => ?_)
                        refine s_assign rfl rfl rfl rfl ?_
                        refine vOrd_nil ?_
                        refine Wp.ret ⟨.inr rfl, fun lW => ⟨_, ⟨_, _, res_cellS rfl rfl (read_all rfl rfl (lineC_len (hWs_len (Nat.le_refl 5) _))), res_tmp (P := Tryd.prog) rfl rfl, rfl⟩, _, rfl, ?_, lW⟩⟩
                        clear lW
                        have hs : hOk (l.drop 2) = true := by unfold hOk; rw [hnb, decide_eq_true (p := aB (hLeft 5 (l.drop 2)) = []) (by rw [← had]; exact (at_end ha hA).1 (by omega))]; rfl
                        rw [show hashL (l.drop 2) = some (lineC 4 0 0 (hWs 5 (l.drop 2))) by unfold hashL; rw [if_pos hs]] at hsc
                        exact ⟨_, true, rfl, by rw [hsc]; rfl, fun _ => hsc, scanL_form hsc⟩
                      · refine s_storeS rfl rfl rfl rfl rfl rfl (write_all rfl rfl (lineC_len (hWs_len (Nat.le_refl 5) _)) (lineC_one _ _ _ _)) (fun ws23 ss23 vs23 => ?_)
                        refine s_assign rfl rfl rfl rfl ?_
                        refine vOrd_nil ?_
                        refine Wp.ret ⟨.inr rfl, fun lW => ⟨_, ⟨_, _, res_cellS rfl rfl (read_all rfl rfl (lineC_len (hWs_len (Nat.le_refl 5) _))), res_tmp (P := Tryd.prog) rfl rfl, rfl⟩, _, rfl, ?_, lW⟩⟩
                        clear lW
                        have hs : hOk (l.drop 2) = false := by unfold hOk; rw [decide_eq_false (p := aB (hLeft 5 (l.drop 2)) = []) (fun e => h95 (by rw [(at_end ha hA).2 (by rw [had]; exact e)])), Bool.and_false]
                        rw [show hashL (l.drop 2) = none by unfold hashL; rw [if_neg (by rw [hs]; decide)]] at hsc
                        exact ⟨_, false, rfl, by rw [hsc]; rfl, (fun h => by cases h), by first | exact zero_line | exact isLine_of (hWs_len (Nat.le_refl 5) _)⟩
                    · refine s_storeS rfl rfl rfl rfl rfl rfl (write_all rfl rfl (lineC_len (hWs_len (Nat.le_refl 5) _)) (lineC_one _ _ _ _)) (fun ws24 ss24 vs24 => ?_)
                      refine b_lenD rfl rfl rfl rfl rfl (fun _ => rfl) (fun _ _ h => h) (fun w9 lw9 => ?_)
                      refine p_eql rfl rfl rfl rfl rfl (fun h95 => ?_) (fun h95 => ?_)
                      · refine s_assign rfl rfl rfl rfl ?_
                        refine vOrd_nil ?_
                        refine Wp.ret ⟨.inr rfl, fun lW => ⟨_, ⟨_, _, res_cellS rfl rfl (read_all rfl rfl (lineC_len (hWs_len (Nat.le_refl 5) _))), res_tmp (P := Tryd.prog) rfl rfl, rfl⟩, _, rfl, ?_, lW⟩⟩
                        clear lW
                        have hs : hOk (l.drop 2) = true := by unfold hOk; rw [hnb, decide_eq_true (p := aB (hLeft 5 (l.drop 2)) = []) (by rw [← had]; exact (at_end ha hA).1 (by omega))]; rfl
                        rw [show hashL (l.drop 2) = some (lineC 4 0 0 (hWs 5 (l.drop 2))) by unfold hashL; rw [if_pos hs]] at hsc
                        exact ⟨_, true, rfl, by rw [hsc]; rfl, fun _ => hsc, scanL_form hsc⟩
                      · refine s_assign rfl rfl rfl rfl ?_
                        refine vOrd_nil ?_
                        refine Wp.ret ⟨.inr rfl, fun lW => ⟨_, ⟨_, _, res_cellS rfl rfl (read_all rfl rfl (lineC_len (hWs_len (Nat.le_refl 5) _))), res_tmp (P := Tryd.prog) rfl rfl, rfl⟩, _, rfl, ?_, lW⟩⟩
                        clear lW
                        have hs : hOk (l.drop 2) = false := by unfold hOk; rw [decide_eq_false (p := aB (hLeft 5 (l.drop 2)) = []) (fun e => h95 (by rw [(at_end ha hA).2 (by rw [had]; exact e)])), Bool.and_false]
                        rw [show hashL (l.drop 2) = none by unfold hashL; rw [if_neg (by rw [hs]; decide)]] at hsc
                        exact ⟨_, false, rfl, by rw [hsc]; rfl, (fun h => by cases h), by first | exact zero_line | exact isLine_of (hWs_len (Nat.le_refl 5) _)⟩
          · have hsc := scan_three e0 hc0 h31 hc1 h43
            refine s_pick rfl rfl rfl rfl rfl ?_
            refine s_move rfl rfl rfl rfl ?_
            refine s_skip rfl rfl rfl ?_
            refine s_skip rfl rfl rfl ?_
            refine s_skip rfl rfl rfl ?_
            refine s_pick rfl rfl rfl rfl rfl ?_
            refine s_pick rfl rfl rfl rfl rfl ?_
            refine s_pick rfl rfl rfl rfl rfl ?_
            refine vOrd_nil ?_
            refine Wp.condF rfl rfl ?_
            refine Wp.skip ?_
            refine Wp.seq ?_
            refine Wp.seq ?_
            refine Wp.region [0, 1, 2, 3, 4, 5, 6, 7] (by kernel_rfl) (by kernel_rfl) ?_
            refine s_move rfl rfl rfl rfl ?_
            refine b_byte rfl rfl rfl rfl rfl rfl (by omega) (hc0) ?_
            refine t_eql rfl rfl rfl rfl rfl (by exact h31) ?_
            refine s_move rfl rfl rfl rfl ?_
            refine s_move rfl rfl rfl rfl ?_
            refine b_byte rfl rfl rfl rfl rfl rfl (by omega) (hc1) ?_
            refine f_eql rfl rfl rfl rfl rfl (by omega) ?_
            refine s_pick rfl rfl rfl rfl rfl ?_
            refine vOrd_nil ?_
            refine Wp.condF rfl rfl ?_
            refine Wp.skip ?_
            refine Wp.seq ?_
            refine Wp.seq ?_
            refine Wp.region [0, 1, 2] (by kernel_rfl) (by kernel_rfl) ?_
            refine s_move rfl rfl rfl rfl ?_
            refine b_byte rfl rfl rfl rfl rfl rfl (by omega) (hc0) ?_
            refine t_eql rfl rfl rfl rfl rfl (by exact h31) ?_
            refine vOrd_nil ?_
            refine Wp.condT rfl rfl ?_
            refine Wp.seq ?_
            obtain ⟨A, hA⟩ : ∃ A, A = 2 + ((l.drop 2).takeWhile isBl).length := ⟨_, rfl⟩
            have Al : A ≤ l.length := by rw [hA]; exact at_le _ hl2
            have hAd : l.drop A = aB (l.drop 2) := by rw [hA, drop_tw]; rfl
            refine Wp.region [0, 1, 2] (by kernel_rfl) (by kernel_rfl) ?_
            refine s_move rfl rfl rfl rfl ?_
            refine s_callT rfl rfl rfl (by kernel_rfl) rfl (refblanks_any l 2 hl2 hl A hA _) ?_
            rintro v w26 rfl lw26
            refine s_assign rfl rfl rfl rfl ?_
            refine vOrd_nil ?_
            refine Wp.seq ?_
            refine Wp.region [0, 1, 2, 3, 4, 5, 6, 7, 8, 9] (by kernel_rfl) (by kernel_rfl) ?_
            refine s_move rfl rfl rfl rfl ?_
            refine s_move rfl rfl rfl rfl ?_
            refine s_callT rfl rfl rfl (by kernel_rfl) rfl (refnumber_any l A (aB (l.drop 2)) Al hAd hl _) ?_
            rintro v w27 ⟨nv, a1, rfl, hnum⟩ lw27
            rcases Bool.eq_false_or_eq_true (!numBad (aB (l.drop 2))) with h104 | h104
            · rw [h104]
              have hnb : numBad (aB (l.drop 2)) = false := by simpa using h104
              obtain ⟨rfl, ha1⟩ := hnum hnb
              have a1l : a1 ≤ l.length := by rw [ha1]; exact dT_le Al hAd
              have a1d : l.drop a1 = dR 10 (aB (l.drop 2)) := by rw [ha1]; exact drop_dT hAd
              obtain ⟨A2, hA2⟩ : ∃ A2, A2 = a1 + ((l.drop a1).takeWhile isBl).length := ⟨_, rfl⟩
              have A2l : A2 ≤ l.length := by rw [hA2]; exact at_le _ a1l
              refine s_move rfl rfl rfl rfl ?_
              refine s_extract rfl rfl rfl rfl rfl ?_
              refine s_extract rfl rfl rfl rfl rfl ?_
              refine s_extract rfl rfl rfl rfl rfl ?_
              refine s_assign rfl rfl rfl rfl ?_
              refine s_assign rfl rfl rfl rfl ?_
              refine s_assign rfl rfl rfl rfl ?_
              refine vOrd_nil ?_
              refine Wp.seq ?_
              refine Wp.seq ?_
              refine Wp.region [0, 1, 2, 3, 4, 5, 6, 7, 8, 9, 10, 11, 12, 13] (by kernel_rfl) (by kernel_rfl) ?_
              refine s_move rfl rfl rfl rfl ?_
              refine p_eql rfl rfl rfl rfl rfl (fun h109 => ?_) (fun h109 => ?_)
              · refine s_move rfl rfl rfl rfl ?_
                refine s_skip rfl rfl rfl ?_
                refine s_skip rfl rfl rfl ?_
                refine s_pick rfl rfl rfl rfl rfl ?_
                refine s_move rfl rfl rfl rfl ?_
                refine s_skip rfl rfl rfl ?_
                refine s_skip rfl rfl rfl ?_
                refine s_skip rfl rfl rfl ?_
                refine s_skip rfl rfl rfl ?_
                refine s_skip rfl rfl rfl ?_
                refine s_skip rfl rfl rfl ?_
                refine s_pick rfl rfl rfl rfl rfl ?_
                refine vOrd_nil ?_
                refine Wp.condT rfl rfl ?_
                refine Wp.seq ?_
                refine Wp.region [0, 1, 2] (by kernel_rfl) (by kernel_rfl) ?_
                refine s_build rfl rfl rfl rfl rfl (by kernel_rfl) ?_
                refine s_store rfl rfl rfl rfl rfl rfl rfl (fun w28 sw28 vw28 => ?_)
                refine s_assign rfl rfl rfl rfl ?_
                refine vOrd_nil ?_
                refine Wp.ret ⟨.inr rfl, fun lW => ⟨_, ⟨_, _, res_cell rfl rfl rfl rfl, res_tmp (P := Tryd.prog) rfl rfl, rfl⟩, _, rfl, ?_, lW⟩⟩
                clear lW
                have hs : stOk (l.drop 2) = false := by unfold stOk; rw [show nB (l.drop 2) = true from decide_eq_true ((none_at hA).2 (by omega))]; rfl
                rw [show stampL 3 (l.drop 2) = none by unfold stampL; rw [if_neg (by rw [hs]; decide)]] at hsc
                exact ⟨_, false, rfl, by rw [hsc]; rfl, (fun h => by cases h), by first | exact zero_line | exact isLine_of (hWs_len (Nat.le_refl 5) _)⟩
              · refine s_move rfl rfl rfl rfl ?_
                refine s_move rfl rfl rfl rfl ?_
                refine s_not rfl rfl rfl rfl ?_
                refine s_pick rfl rfl rfl rfl rfl ?_
                refine s_move rfl rfl rfl rfl ?_
                refine s_move rfl rfl rfl rfl ?_
                refine s_move rfl rfl rfl rfl ?_
                refine s_callT rfl rfl rfl (by kernel_rfl) rfl (refblanks_any l a1 a1l hl A2 hA2 _) ?_
                rintro v w29 rfl lw29
                refine s_move rfl rfl rfl rfl ?_
                refine b_len rfl rfl rfl rfl rfl ?_
                refine p_neq rfl rfl rfl rfl rfl (fun h120 => ?_) (fun h120 => ?_)
                · refine s_pick rfl rfl rfl rfl rfl ?_
                  refine vOrd_nil ?_
                  refine Wp.condT rfl rfl ?_
                  refine Wp.seq ?_
                  refine Wp.region [0, 1, 2] (by kernel_rfl) (by kernel_rfl) ?_
                  refine s_build rfl rfl rfl rfl rfl (by kernel_rfl) ?_
                  refine s_store rfl rfl rfl rfl rfl rfl rfl (fun w30 sw30 vw30 => ?_)
                  refine s_assign rfl rfl rfl rfl ?_
                  refine vOrd_nil ?_
                  refine Wp.ret ⟨.inr rfl, fun lW => ⟨_, ⟨_, _, res_cell rfl rfl rfl rfl, res_tmp (P := Tryd.prog) rfl rfl, rfl⟩, _, rfl, ?_, lW⟩⟩
                  clear lW
                  have hs : stOk (l.drop 2) = false := by unfold stOk; rw [decide_eq_false (p := aB (dR 10 (aB (l.drop 2))) = []) (fun e => h120 (by rw [(at_end a1l hA2).2 (by rw [a1d]; exact e)])), Bool.and_false]
                  rw [show stampL 3 (l.drop 2) = none by unfold stampL; rw [if_neg (by rw [hs]; decide)]] at hsc
                  exact ⟨_, false, rfl, by rw [hsc]; rfl, (fun h => by cases h), by first | exact zero_line | exact isLine_of (hWs_len (Nat.le_refl 5) _)⟩
                · refine s_pick rfl rfl rfl rfl rfl ?_
                  refine vOrd_nil ?_
                  refine Wp.condF rfl rfl ?_
                  refine Wp.skip ?_
                  refine Wp.seq ?_
                  refine Wp.seq ?_
                  refine Wp.region [0, 1, 2] (by kernel_rfl) (by kernel_rfl) ?_
                  refine s_move rfl rfl rfl rfl ?_
                  refine b_byte rfl rfl rfl rfl rfl rfl (by omega) (hc1) ?_
                  refine f_eql rfl rfl rfl rfl rfl (by omega) ?_
                  refine vOrd_nil ?_
                  refine Wp.condF rfl rfl ?_
                  refine Wp.skip ?_
                  refine Wp.seq ?_
                  refine Wp.region [0, 1, 2, 3] (by kernel_rfl) (by kernel_rfl) ?_
                  refine s_move rfl rfl rfl rfl ?_
                  refine s_build rfl rfl rfl rfl rfl (by kernel_rfl) ?_
                  refine s_store rfl rfl rfl rfl rfl rfl rfl (fun w31 sw31 vw31 => ?_)
                  refine s_assign rfl rfl rfl rfl ?_
                  refine vOrd_nil ?_
                  refine Wp.ret ⟨.inr rfl, fun lW => ⟨_, ⟨_, _, res_cell rfl rfl rfl rfl, res_tmp (P := Tryd.prog) rfl rfl, rfl⟩, _, rfl, ?_, lW⟩⟩
                  clear lW
                  have hs : stOk (l.drop 2) = true := by unfold stOk; rw [show nB (l.drop 2) = false from decide_eq_false (fun e => h109 (by have := (none_at hA).1 e; omega)), hnb, decide_eq_true (p := aB (dR 10 (aB (l.drop 2))) = []) (by rw [← a1d]; exact (at_end a1l hA2).1 (by omega))]; rfl
                  rw [show stampL 3 (l.drop 2) = some (lineC 3 (numVal (aB (l.drop 2))) 0 z5) by unfold stampL; rw [if_pos hs]] at hsc
                  exact ⟨lineC 3 (numVal (aB (l.drop 2))) 0 z5, true, rfl, by rw [hsc]; rfl, fun _ => hsc, scanL_form hsc⟩
            · rw [h104]
              have hnb : numBad (aB (l.drop 2)) = true := by simpa using h104
              refine s_move rfl rfl rfl rfl ?_
              refine s_extract rfl rfl rfl rfl rfl ?_
              refine s_extract rfl rfl rfl rfl rfl ?_
              refine s_extract rfl rfl rfl rfl rfl ?_
              refine s_assign rfl rfl rfl rfl ?_
              refine s_assign rfl rfl rfl rfl ?_
              refine s_assign rfl rfl rfl rfl ?_
              refine vOrd_nil ?_
              refine Wp.seq ?_
              refine Wp.seq ?_
              refine Wp.region [0, 1, 2, 3, 4, 5, 6, 7, 8, 9, 10, 11, 12, 13] (by kernel_rfl) (by kernel_rfl) ?_
              refine s_move rfl rfl rfl rfl ?_
              refine p_eql rfl rfl rfl rfl rfl (fun h109 => ?_) (fun h109 => ?_)
              · refine s_move rfl rfl rfl rfl ?_
                refine s_skip rfl rfl rfl ?_
                refine s_skip rfl rfl rfl ?_
                refine s_pick rfl rfl rfl rfl rfl ?_
                refine s_move rfl rfl rfl rfl ?_
                refine s_skip rfl rfl rfl ?_
                refine s_skip rfl rfl rfl ?_
                refine s_skip rfl rfl rfl ?_
                refine s_skip rfl rfl rfl ?_
                refine s_skip rfl rfl rfl ?_
                refine s_skip rfl rfl rfl ?_
                refine s_pick rfl rfl rfl rfl rfl ?_
                refine vOrd_nil ?_
                refine Wp.condT rfl rfl ?_
                refine Wp.seq ?_
                refine Wp.region [0, 1, 2] (by kernel_rfl) (by kernel_rfl) ?_
                refine s_build rfl rfl rfl rfl rfl (by kernel_rfl) ?_
                refine s_store rfl rfl rfl rfl rfl rfl rfl (fun w32 sw32 vw32 => ?_)
                refine s_assign rfl rfl rfl rfl ?_
                refine vOrd_nil ?_
                refine Wp.ret ⟨.inr rfl, fun lW => ⟨_, ⟨_, _, res_cell rfl rfl rfl rfl, res_tmp (P := Tryd.prog) rfl rfl, rfl⟩, _, rfl, ?_, lW⟩⟩
                clear lW
                have hs : stOk (l.drop 2) = false := by unfold stOk; rw [show nB (l.drop 2) = true from decide_eq_true ((none_at hA).2 (by omega))]; rfl
                rw [show stampL 3 (l.drop 2) = none by unfold stampL; rw [if_neg (by rw [hs]; decide)]] at hsc
                exact ⟨_, false, rfl, by rw [hsc]; rfl, (fun h => by cases h), by first | exact zero_line | exact isLine_of (hWs_len (Nat.le_refl 5) _)⟩
              · refine s_move rfl rfl rfl rfl ?_
                refine s_move rfl rfl rfl rfl ?_
                refine s_not rfl rfl rfl rfl ?_
                refine s_pick rfl rfl rfl rfl rfl ?_
                refine s_move rfl rfl rfl rfl ?_
                refine s_skip rfl rfl rfl ?_
                refine s_skip rfl rfl rfl ?_
                refine s_skip rfl rfl rfl ?_
                refine s_skip rfl rfl rfl ?_
                refine s_skip rfl rfl rfl ?_
                refine s_skip rfl rfl rfl ?_
                refine s_pick rfl rfl rfl rfl rfl ?_
                refine vOrd_nil ?_
                refine Wp.condT rfl rfl ?_
                refine Wp.seq ?_
                refine Wp.region [0, 1, 2] (by kernel_rfl) (by kernel_rfl) ?_
                refine s_build rfl rfl rfl rfl rfl (by kernel_rfl) ?_
                refine s_store rfl rfl rfl rfl rfl rfl rfl (fun w33 sw33 vw33 => ?_)
                refine s_assign rfl rfl rfl rfl ?_
                refine vOrd_nil ?_
                refine Wp.ret ⟨.inr rfl, fun lW => ⟨_, ⟨_, _, res_cell rfl rfl rfl rfl, res_tmp (P := Tryd.prog) rfl rfl, rfl⟩, _, rfl, ?_, lW⟩⟩
                clear lW
                have hs : stOk (l.drop 2) = false := by unfold stOk; rw [hnb, Bool.or_true]; rfl
                rw [show stampL 3 (l.drop 2) = none by unfold stampL; rw [if_neg (by rw [hs]; decide)]] at hsc
                exact ⟨_, false, rfl, by rw [hsc]; rfl, (fun h => by cases h), by first | exact zero_line | exact isLine_of (hWs_len (Nat.le_refl 5) _)⟩
        · have hsc := scan_two e0 hc0 h31 hc1 h39
          refine s_move rfl rfl rfl rfl ?_
          refine s_skip rfl rfl rfl ?_
          refine s_skip rfl rfl rfl ?_
          refine s_skip rfl rfl rfl ?_
          refine s_pick rfl rfl rfl rfl rfl ?_
          refine s_move rfl rfl rfl rfl ?_
          refine s_skip rfl rfl rfl ?_
          refine s_skip rfl rfl rfl ?_
          refine s_skip rfl rfl rfl ?_
          refine s_pick rfl rfl rfl rfl rfl ?_
          refine s_pick rfl rfl rfl rfl rfl ?_
          refine s_pick rfl rfl rfl rfl rfl ?_
          refine vOrd_nil ?_
          refine Wp.condF rfl rfl ?_
          refine Wp.skip ?_
          refine Wp.seq ?_
          refine Wp.seq ?_
          refine Wp.region [0, 1, 2, 3, 4, 5, 6, 7] (by kernel_rfl) (by kernel_rfl) ?_
          refine s_move rfl rfl rfl rfl ?_
          refine b_byte rfl rfl rfl rfl rfl rfl (by omega) (hc0) ?_
          refine t_eql rfl rfl rfl rfl rfl (by exact h31) ?_
          refine s_move rfl rfl rfl rfl ?_
          refine s_move rfl rfl rfl rfl ?_
          refine b_byte rfl rfl rfl rfl rfl rfl (by omega) (hc1) ?_
          refine f_eql rfl rfl rfl rfl rfl (by omega) ?_
          refine s_pick rfl rfl rfl rfl rfl ?_
          refine vOrd_nil ?_
          refine Wp.condF rfl rfl ?_
          refine Wp.skip ?_
          refine Wp.seq ?_
          refine Wp.seq ?_
          refine Wp.region [0, 1, 2] (by kernel_rfl) (by kernel_rfl) ?_
          refine s_move rfl rfl rfl rfl ?_
          refine b_byte rfl rfl rfl rfl rfl rfl (by omega) (hc0) ?_
          refine t_eql rfl rfl rfl rfl rfl (by exact h31) ?_
          refine vOrd_nil ?_
          refine Wp.condT rfl rfl ?_
          refine Wp.seq ?_
          obtain ⟨A, hA⟩ : ∃ A, A = 2 + ((l.drop 2).takeWhile isBl).length := ⟨_, rfl⟩
          have Al : A ≤ l.length := by rw [hA]; exact at_le _ hl2
          have hAd : l.drop A = aB (l.drop 2) := by rw [hA, drop_tw]; rfl
          refine Wp.region [0, 1, 2] (by kernel_rfl) (by kernel_rfl) ?_
          refine s_move rfl rfl rfl rfl ?_
          refine s_callT rfl rfl rfl (by kernel_rfl) rfl (refblanks_any l 2 hl2 hl A hA _) ?_
          rintro v w34 rfl lw34
          refine s_assign rfl rfl rfl rfl ?_
          refine vOrd_nil ?_
          refine Wp.seq ?_
          refine Wp.region [0, 1, 2, 3, 4, 5, 6, 7, 8, 9] (by kernel_rfl) (by kernel_rfl) ?_
          refine s_move rfl rfl rfl rfl ?_
          refine s_move rfl rfl rfl rfl ?_
          refine s_callT rfl rfl rfl (by kernel_rfl) rfl (refnumber_any l A (aB (l.drop 2)) Al hAd hl _) ?_
          rintro v w35 ⟨nv, a1, rfl, hnum⟩ lw35
          rcases Bool.eq_false_or_eq_true (!numBad (aB (l.drop 2))) with h104 | h104
          · rw [h104]
            have hnb : numBad (aB (l.drop 2)) = false := by simpa using h104
            obtain ⟨rfl, ha1⟩ := hnum hnb
            have a1l : a1 ≤ l.length := by rw [ha1]; exact dT_le Al hAd
            have a1d : l.drop a1 = dR 10 (aB (l.drop 2)) := by rw [ha1]; exact drop_dT hAd
            obtain ⟨A2, hA2⟩ : ∃ A2, A2 = a1 + ((l.drop a1).takeWhile isBl).length := ⟨_, rfl⟩
            have A2l : A2 ≤ l.length := by rw [hA2]; exact at_le _ a1l
            refine s_move rfl rfl rfl rfl ?_
            refine s_extract rfl rfl rfl rfl rfl ?_
            refine s_extract rfl rfl rfl rfl rfl ?_
            refine s_extract rfl rfl rfl rfl rfl ?_
            refine s_assign rfl rfl rfl rfl ?_
            refine s_assign rfl rfl rfl rfl ?_
            refine s_assign rfl rfl rfl rfl ?_
            refine vOrd_nil ?_
            refine Wp.seq ?_
            refine Wp.seq ?_
            refine Wp.region [0, 1, 2, 3, 4, 5, 6, 7, 8, 9, 10, 11, 12, 13] (by kernel_rfl) (by kernel_rfl) ?_
            refine s_move rfl rfl rfl rfl ?_
            refine p_eql rfl rfl rfl rfl rfl (fun h109 => ?_) (fun h109 => ?_)
            · refine s_move rfl rfl rfl rfl ?_
              refine s_skip rfl rfl rfl ?_
              refine s_skip rfl rfl rfl ?_
              refine s_pick rfl rfl rfl rfl rfl ?_
              refine s_move rfl rfl rfl rfl ?_
              refine s_skip rfl rfl rfl ?_
              refine s_skip rfl rfl rfl ?_
              refine s_skip rfl rfl rfl ?_
              refine s_skip rfl rfl rfl ?_
              refine s_skip rfl rfl rfl ?_
              refine s_skip rfl rfl rfl ?_
              refine s_pick rfl rfl rfl rfl rfl ?_
              refine vOrd_nil ?_
              refine Wp.condT rfl rfl ?_
              refine Wp.seq ?_
              refine Wp.region [0, 1, 2] (by kernel_rfl) (by kernel_rfl) ?_
              refine s_build rfl rfl rfl rfl rfl (by kernel_rfl) ?_
              refine s_store rfl rfl rfl rfl rfl rfl rfl (fun w36 sw36 vw36 => ?_)
              refine s_assign rfl rfl rfl rfl ?_
              refine vOrd_nil ?_
              refine Wp.ret ⟨.inr rfl, fun lW => ⟨_, ⟨_, _, res_cell rfl rfl rfl rfl, res_tmp (P := Tryd.prog) rfl rfl, rfl⟩, _, rfl, ?_, lW⟩⟩
              clear lW
              have hs : stOk (l.drop 2) = false := by unfold stOk; rw [show nB (l.drop 2) = true from decide_eq_true ((none_at hA).2 (by omega))]; rfl
              rw [show stampL 2 (l.drop 2) = none by unfold stampL; rw [if_neg (by rw [hs]; decide)]] at hsc
              exact ⟨_, false, rfl, by rw [hsc]; rfl, (fun h => by cases h), by first | exact zero_line | exact isLine_of (hWs_len (Nat.le_refl 5) _)⟩
            · refine s_move rfl rfl rfl rfl ?_
              refine s_move rfl rfl rfl rfl ?_
              refine s_not rfl rfl rfl rfl ?_
              refine s_pick rfl rfl rfl rfl rfl ?_
              refine s_move rfl rfl rfl rfl ?_
              refine s_move rfl rfl rfl rfl ?_
              refine s_move rfl rfl rfl rfl ?_
              refine s_callT rfl rfl rfl (by kernel_rfl) rfl (refblanks_any l a1 a1l hl A2 hA2 _) ?_
              rintro v w37 rfl lw37
              refine s_move rfl rfl rfl rfl ?_
              refine b_len rfl rfl rfl rfl rfl ?_
              refine p_neq rfl rfl rfl rfl rfl (fun h120 => ?_) (fun h120 => ?_)
              · refine s_pick rfl rfl rfl rfl rfl ?_
                refine vOrd_nil ?_
                refine Wp.condT rfl rfl ?_
                refine Wp.seq ?_
                refine Wp.region [0, 1, 2] (by kernel_rfl) (by kernel_rfl) ?_
                refine s_build rfl rfl rfl rfl rfl (by kernel_rfl) ?_
                refine s_store rfl rfl rfl rfl rfl rfl rfl (fun w38 sw38 vw38 => ?_)
                refine s_assign rfl rfl rfl rfl ?_
                refine vOrd_nil ?_
                refine Wp.ret ⟨.inr rfl, fun lW => ⟨_, ⟨_, _, res_cell rfl rfl rfl rfl, res_tmp (P := Tryd.prog) rfl rfl, rfl⟩, _, rfl, ?_, lW⟩⟩
                clear lW
                have hs : stOk (l.drop 2) = false := by unfold stOk; rw [decide_eq_false (p := aB (dR 10 (aB (l.drop 2))) = []) (fun e => h120 (by rw [(at_end a1l hA2).2 (by rw [a1d]; exact e)])), Bool.and_false]
                rw [show stampL 2 (l.drop 2) = none by unfold stampL; rw [if_neg (by rw [hs]; decide)]] at hsc
                exact ⟨_, false, rfl, by rw [hsc]; rfl, (fun h => by cases h), by first | exact zero_line | exact isLine_of (hWs_len (Nat.le_refl 5) _)⟩
              · refine s_pick rfl rfl rfl rfl rfl ?_
                refine vOrd_nil ?_
                refine Wp.condF rfl rfl ?_
                refine Wp.skip ?_
                refine Wp.seq ?_
                refine Wp.seq ?_
                refine Wp.region [0, 1, 2] (by kernel_rfl) (by kernel_rfl) ?_
                refine s_move rfl rfl rfl rfl ?_
                refine b_byte rfl rfl rfl rfl rfl rfl (by omega) (hc1) ?_
                refine t_eql rfl rfl rfl rfl rfl (by omega) ?_
                refine vOrd_nil ?_
                refine Wp.condT rfl rfl ?_
                refine Wp.seq ?_
                refine Wp.region [0, 1, 2, 3] (by kernel_rfl) (by kernel_rfl) ?_
                refine s_move rfl rfl rfl rfl ?_
                refine s_build rfl rfl rfl rfl rfl (by kernel_rfl) ?_
                refine s_store rfl rfl rfl rfl rfl rfl rfl (fun w39 sw39 vw39 => ?_)
                refine s_assign rfl rfl rfl rfl ?_
                refine vOrd_nil ?_
                refine Wp.ret ⟨.inr rfl, fun lW => ⟨_, ⟨_, _, res_cell rfl rfl rfl rfl, res_tmp (P := Tryd.prog) rfl rfl, rfl⟩, _, rfl, ?_, lW⟩⟩
                clear lW
                have hs : stOk (l.drop 2) = true := by unfold stOk; rw [show nB (l.drop 2) = false from decide_eq_false (fun e => h109 (by have := (none_at hA).1 e; omega)), hnb, decide_eq_true (p := aB (dR 10 (aB (l.drop 2))) = []) (by rw [← a1d]; exact (at_end a1l hA2).1 (by omega))]; rfl
                rw [show stampL 2 (l.drop 2) = some (lineC 2 (numVal (aB (l.drop 2))) 0 z5) by unfold stampL; rw [if_pos hs]] at hsc
                exact ⟨lineC 2 (numVal (aB (l.drop 2))) 0 z5, true, rfl, by rw [hsc]; rfl, fun _ => hsc, scanL_form hsc⟩
          · rw [h104]
            have hnb : numBad (aB (l.drop 2)) = true := by simpa using h104
            refine s_move rfl rfl rfl rfl ?_
            refine s_extract rfl rfl rfl rfl rfl ?_
            refine s_extract rfl rfl rfl rfl rfl ?_
            refine s_extract rfl rfl rfl rfl rfl ?_
            refine s_assign rfl rfl rfl rfl ?_
            refine s_assign rfl rfl rfl rfl ?_
            refine s_assign rfl rfl rfl rfl ?_
            refine vOrd_nil ?_
            refine Wp.seq ?_
            refine Wp.seq ?_
            refine Wp.region [0, 1, 2, 3, 4, 5, 6, 7, 8, 9, 10, 11, 12, 13] (by kernel_rfl) (by kernel_rfl) ?_
            refine s_move rfl rfl rfl rfl ?_
            refine p_eql rfl rfl rfl rfl rfl (fun h109 => ?_) (fun h109 => ?_)
            · refine s_move rfl rfl rfl rfl ?_
              refine s_skip rfl rfl rfl ?_
              refine s_skip rfl rfl rfl ?_
              refine s_pick rfl rfl rfl rfl rfl ?_
              refine s_move rfl rfl rfl rfl ?_
              refine s_skip rfl rfl rfl ?_
              refine s_skip rfl rfl rfl ?_
              refine s_skip rfl rfl rfl ?_
              refine s_skip rfl rfl rfl ?_
              refine s_skip rfl rfl rfl ?_
              refine s_skip rfl rfl rfl ?_
              refine s_pick rfl rfl rfl rfl rfl ?_
              refine vOrd_nil ?_
              refine Wp.condT rfl rfl ?_
              refine Wp.seq ?_
              refine Wp.region [0, 1, 2] (by kernel_rfl) (by kernel_rfl) ?_
              refine s_build rfl rfl rfl rfl rfl (by kernel_rfl) ?_
              refine s_store rfl rfl rfl rfl rfl rfl rfl (fun w40 sw40 vw40 => ?_)
              refine s_assign rfl rfl rfl rfl ?_
              refine vOrd_nil ?_
              refine Wp.ret ⟨.inr rfl, fun lW => ⟨_, ⟨_, _, res_cell rfl rfl rfl rfl, res_tmp (P := Tryd.prog) rfl rfl, rfl⟩, _, rfl, ?_, lW⟩⟩
              clear lW
              have hs : stOk (l.drop 2) = false := by unfold stOk; rw [show nB (l.drop 2) = true from decide_eq_true ((none_at hA).2 (by omega))]; rfl
              rw [show stampL 2 (l.drop 2) = none by unfold stampL; rw [if_neg (by rw [hs]; decide)]] at hsc
              exact ⟨_, false, rfl, by rw [hsc]; rfl, (fun h => by cases h), by first | exact zero_line | exact isLine_of (hWs_len (Nat.le_refl 5) _)⟩
            · refine s_move rfl rfl rfl rfl ?_
              refine s_move rfl rfl rfl rfl ?_
              refine s_not rfl rfl rfl rfl ?_
              refine s_pick rfl rfl rfl rfl rfl ?_
              refine s_move rfl rfl rfl rfl ?_
              refine s_skip rfl rfl rfl ?_
              refine s_skip rfl rfl rfl ?_
              refine s_skip rfl rfl rfl ?_
              refine s_skip rfl rfl rfl ?_
              refine s_skip rfl rfl rfl ?_
              refine s_skip rfl rfl rfl ?_
              refine s_pick rfl rfl rfl rfl rfl ?_
              refine vOrd_nil ?_
              refine Wp.condT rfl rfl ?_
              refine Wp.seq ?_
              refine Wp.region [0, 1, 2] (by kernel_rfl) (by kernel_rfl) ?_
              refine s_build rfl rfl rfl rfl rfl (by kernel_rfl) ?_
              refine s_store rfl rfl rfl rfl rfl rfl rfl (fun w41 sw41 vw41 => ?_)
              refine s_assign rfl rfl rfl rfl ?_
              refine vOrd_nil ?_
              refine Wp.ret ⟨.inr rfl, fun lW => ⟨_, ⟨_, _, res_cell rfl rfl rfl rfl, res_tmp (P := Tryd.prog) rfl rfl, rfl⟩, _, rfl, ?_, lW⟩⟩
              clear lW
              have hs : stOk (l.drop 2) = false := by unfold stOk; rw [hnb, Bool.or_true]; rfl
              rw [show stampL 2 (l.drop 2) = none by unfold stampL; rw [if_neg (by rw [hs]; decide)]] at hsc
              exact ⟨_, false, rfl, by rw [hsc]; rfl, (fun h => by cases h), by first | exact zero_line | exact isLine_of (hWs_len (Nat.le_refl 5) _)⟩
    · have hsc := scan_data e0 hc0 h31
      refine s_move rfl rfl rfl rfl ?_
      refine s_skip rfl rfl rfl ?_
      refine s_skip rfl rfl rfl ?_
      refine s_skip rfl rfl rfl ?_
      refine s_skip rfl rfl rfl ?_
      refine s_skip rfl rfl rfl ?_
      refine s_skip rfl rfl rfl ?_
      refine s_skip rfl rfl rfl ?_
      refine s_skip rfl rfl rfl ?_
      refine s_skip rfl rfl rfl ?_
      refine s_skip rfl rfl rfl ?_
      refine s_skip rfl rfl rfl ?_
      refine s_skip rfl rfl rfl ?_
      refine s_skip rfl rfl rfl ?_
      refine s_skip rfl rfl rfl ?_
      refine s_skip rfl rfl rfl ?_
      refine s_skip rfl rfl rfl ?_
      refine s_skip rfl rfl rfl ?_
      refine s_skip rfl rfl rfl ?_
      refine s_pick rfl rfl rfl rfl rfl ?_
      refine vOrd_nil ?_
      refine Wp.condF rfl rfl ?_
      refine Wp.skip ?_
      refine Wp.seq ?_
      refine Wp.seq ?_
      refine Wp.region [0, 1, 2, 3, 4, 5, 6, 7] (by kernel_rfl) (by kernel_rfl) ?_
      refine s_move rfl rfl rfl rfl ?_
      refine b_byte rfl rfl rfl rfl rfl rfl (by omega) (hc0) ?_
      refine f_eql rfl rfl rfl rfl rfl (by exact h31) ?_
      refine s_move rfl rfl rfl rfl ?_
      refine s_skip rfl rfl rfl ?_
      refine s_skip rfl rfl rfl ?_
      refine s_skip rfl rfl rfl ?_
      refine s_pick rfl rfl rfl rfl rfl ?_
      refine vOrd_nil ?_
      refine Wp.condF rfl rfl ?_
      refine Wp.skip ?_
      refine Wp.seq ?_
      refine Wp.seq ?_
      refine Wp.region [0, 1, 2] (by kernel_rfl) (by kernel_rfl) ?_
      refine s_move rfl rfl rfl rfl ?_
      refine b_byte rfl rfl rfl rfl rfl rfl (by omega) (hc0) ?_
      refine f_eql rfl rfl rfl rfl rfl (by exact h31) ?_
      refine vOrd_nil ?_
      refine Wp.condF rfl rfl ?_
      refine Wp.skip ?_
      refine Wp.seq ?_
      refine Wp.region [0, 1, 2, 3, 4, 5, 6, 7, 8] (by kernel_rfl) (by kernel_rfl) ?_
      refine s_move rfl rfl rfl rfl ?_
      refine s_callT rfl rfl rfl (by kernel_rfl) rfl (refnumber_any l 0 l (Nat.zero_le _) rfl hl _) ?_
      rintro v w42 ⟨nv, a1, rfl, hnum⟩ lw42
      rcases Bool.eq_false_or_eq_true (!numBad l) with h132 | h132
      · rw [h132]
        have hnb : numBad l = false := by simpa using h132
        obtain ⟨rfl, ha1⟩ := hnum hnb
        have a1l : a1 ≤ l.length := by rw [ha1]; exact dT_le (Nat.zero_le _) rfl
        have a1d : l.drop a1 = dR 10 l := by rw [ha1]; exact drop_dT rfl
        obtain ⟨A, hA⟩ : ∃ A, A = a1 + ((l.drop a1).takeWhile isBl).length := ⟨_, rfl⟩
        have Al : A ≤ l.length := by rw [hA]; exact at_le _ a1l
        have hAd : l.drop A = aB (dR 10 l) := by rw [hA, drop_tw, a1d]; rfl
        refine s_move rfl rfl rfl rfl ?_
        refine s_extract rfl rfl rfl rfl rfl ?_
        refine s_extract rfl rfl rfl rfl rfl ?_
        refine s_extract rfl rfl rfl rfl rfl ?_
        refine s_assign rfl rfl rfl rfl ?_
        refine s_assign rfl rfl rfl rfl ?_
        refine s_assign rfl rfl rfl rfl ?_
        refine vOrd_nil ?_
        refine Wp.seq ?_
        refine Wp.seq ?_
        refine Wp.region [0, 1] (by kernel_rfl) (by kernel_rfl) ?_
        refine s_move rfl rfl rfl rfl ?_
        refine s_not rfl rfl rfl rfl ?_
        refine vOrd_nil ?_
        refine Wp.condF rfl rfl ?_
        refine Wp.skip ?_
        refine Wp.seq ?_
        refine Wp.region [0, 1, 2, 3] (by kernel_rfl) (by kernel_rfl) ?_
        refine s_move rfl rfl rfl rfl ?_
        refine s_move rfl rfl rfl rfl ?_
        refine s_callT rfl rfl rfl (by kernel_rfl) rfl (refblanks_any l a1 a1l hl A hA _) ?_
        rintro v w43 rfl lw43
        refine s_assign rfl rfl rfl rfl ?_
        refine vOrd_nil ?_
        refine Wp.seq ?_
        refine Wp.region [0, 1, 2, 3, 4, 5, 6, 7, 8, 9] (by kernel_rfl) (by kernel_rfl) ?_
        refine s_move rfl rfl rfl rfl ?_
        refine s_move rfl rfl rfl rfl ?_
        refine s_callT rfl rfl rfl (by kernel_rfl) rfl (refnumber_any l A (aB (dR 10 l)) Al hAd hl _) ?_
        rintro v w44 ⟨nv2, a2, rfl, hnum2⟩ lw44
        rcases Bool.eq_false_or_eq_true (!numBad (aB (dR 10 l))) with h145 | h145
        · rw [h145]
          have hn2 : numBad (aB (dR 10 l)) = false := by simpa using h145
          obtain ⟨rfl, ha2⟩ := hnum2 hn2
          have a2l : a2 ≤ l.length := by rw [ha2]; exact dT_le Al hAd
          have a2d : l.drop a2 = dR 10 (aB (dR 10 l)) := by rw [ha2]; exact drop_dT hAd
          obtain ⟨B2, hB2⟩ : ∃ B2, B2 = a2 + ((l.drop a2).takeWhile isBl).length := ⟨_, rfl⟩
          have B2l : B2 ≤ l.length := by rw [hB2]; exact at_le _ a2l
          refine s_move rfl rfl rfl rfl ?_
          refine s_extract rfl rfl rfl rfl rfl ?_
          refine s_extract rfl rfl rfl rfl rfl ?_
          refine s_extract rfl rfl rfl rfl rfl ?_
          refine s_assign rfl rfl rfl rfl ?_
          refine s_assign rfl rfl rfl rfl ?_
          refine s_assign rfl rfl rfl rfl ?_
          refine vOrd_nil ?_
          refine Wp.seq ?_
          refine Wp.seq ?_
          refine Wp.region [0, 1, 2, 3, 4, 5, 6] (by kernel_rfl) (by kernel_rfl) ?_
          refine s_move rfl rfl rfl rfl ?_
          refine s_move rfl rfl rfl rfl ?_
          refine p_eql rfl rfl rfl rfl rfl (fun h151 => ?_) (fun h151 => ?_)
          · refine s_move rfl rfl rfl rfl ?_
            refine s_skip rfl rfl rfl ?_
            refine s_skip rfl rfl rfl ?_
            refine s_pick rfl rfl rfl rfl rfl ?_
            refine vOrd_nil ?_
            refine Wp.condT rfl rfl ?_
            refine Wp.seq ?_
            refine Wp.region [0, 1, 2] (by kernel_rfl) (by kernel_rfl) ?_
            refine s_build rfl rfl rfl rfl rfl (by kernel_rfl) ?_
            refine s_store rfl rfl rfl rfl rfl rfl rfl (fun w45 sw45 vw45 => ?_)
            refine s_assign rfl rfl rfl rfl ?_
            refine vOrd_nil ?_
            refine Wp.ret ⟨.inr rfl, fun lW => ⟨_, ⟨_, _, res_cell rfl rfl rfl rfl, res_tmp (P := Tryd.prog) rfl rfl, rfl⟩, _, rfl, ?_, lW⟩⟩
            clear lW
            have hs : daOk l = false := by unfold daOk; rw [show nB (dR 10 l) = true from decide_eq_true (by rw [← a1d]; exact (none_at hA).2 (by omega)), Bool.or_true]; rfl
            rw [show dataL l = none by unfold dataL; rw [if_neg (by rw [hs]; decide)]] at hsc
            exact ⟨_, false, rfl, by rw [hsc]; rfl, (fun h => by cases h), by first | exact zero_line | exact isLine_of (hWs_len (Nat.le_refl 5) _)⟩
          · refine s_move rfl rfl rfl rfl ?_
            refine s_move rfl rfl rfl rfl ?_
            refine s_not rfl rfl rfl rfl ?_
            refine s_pick rfl rfl rfl rfl rfl ?_
            refine vOrd_nil ?_
            refine Wp.condF rfl rfl ?_
            refine Wp.skip ?_
            refine Wp.seq ?_
            have hnB1 : nB (dR 10 l) = false := decide_eq_false (fun e => h151 (by rw [← a1d] at e; have := (none_at hA).1 e; omega))
            refine Wp.region [0, 1, 2, 3] (by kernel_rfl) (by kernel_rfl) ?_
            refine s_move rfl rfl rfl rfl ?_
            refine s_move rfl rfl rfl rfl ?_
            refine s_callT rfl rfl rfl (by kernel_rfl) rfl (refblanks_any l a2 a2l hl B2 hB2 _) ?_
            rintro v w46 rfl lw46
            refine s_assign rfl rfl rfl rfl ?_
            refine vOrd_nil ?_
            refine Wp.seq ?_
            refine Wp.seq ?_
            refine Wp.region [0, 1, 2, 3, 4, 5, 6, 7, 8, 9, 10, 11, 12, 13, 14] (by kernel_rfl) (by kernel_rfl) ?_
            refine s_move rfl rfl rfl rfl ?_
            refine s_move rfl rfl rfl rfl ?_
            refine b_len rfl rfl rfl rfl rfl ?_
            refine p_eql rfl rfl rfl rfl rfl (fun h163 => ?_) (fun h163 => ?_)
            · refine s_move rfl rfl rfl rfl ?_
              refine s_skip rfl rfl rfl ?_
              refine s_skip rfl rfl rfl ?_
              refine s_skip rfl rfl rfl ?_
              refine s_skip rfl rfl rfl ?_
              refine s_skip rfl rfl rfl ?_
              refine s_skip rfl rfl rfl ?_
              refine s_skip rfl rfl rfl ?_
              refine s_skip rfl rfl rfl ?_
              refine s_skip rfl rfl rfl ?_
              refine s_pick rfl rfl rfl rfl rfl ?_
              refine vOrd_nil ?_
              refine Wp.condT rfl rfl ?_
              refine Wp.seq ?_
              refine Wp.region [0, 1, 2, 3, 4] (by kernel_rfl) (by kernel_rfl) ?_
              refine s_move rfl rfl rfl rfl ?_
              refine s_move rfl rfl rfl rfl ?_
              refine s_build rfl rfl rfl rfl rfl (by kernel_rfl) ?_
              refine s_store rfl rfl rfl rfl rfl rfl rfl (fun w47 sw47 vw47 => ?_)
              refine s_assign rfl rfl rfl rfl ?_
              refine vOrd_nil ?_
              refine Wp.ret ⟨.inr rfl, fun lW => ⟨_, ⟨_, _, res_cell rfl rfl rfl rfl, res_tmp (P := Tryd.prog) rfl rfl, rfl⟩, _, rfl, ?_, lW⟩⟩
              clear lW
              have hs : daOk l = true := by unfold daOk; rw [hnb, hn2, hnB1]; rw [decide_eq_true (p := aB (dR 10 (aB (dR 10 l))) = []) (by rw [← a2d]; exact (at_end a2l hB2).1 (by omega))]; rfl
              rw [show dataL l = some (lineC 5 (numVal l) (numVal (aB (dR 10 l))) z5) by unfold dataL; rw [if_pos hs]] at hsc
              exact ⟨lineC 5 (numVal l) (numVal (aB (dR 10 l))) z5, true, rfl, by rw [hsc]; rfl, fun _ => hsc, scanL_form hsc⟩
            · refine s_move rfl rfl rfl rfl ?_
              refine s_move rfl rfl rfl rfl ?_
              refine s_move rfl rfl rfl rfl ?_
              refine p_gtr rfl rfl rfl rfl rfl (fun h167 => ?_) (fun h167 => ?_)
              · obtain ⟨c2, hc2⟩ := get_some (l := l) (i := B2) (by omega)
                have ht4 : (aB (dR 10 (aB (dR 10 l)))).take 1 = [c2] := take1 (by rw [show aB (dR 10 (aB (dR 10 l))) = l.drop B2 by rw [hB2, drop_tw, a2d]; rfl, List.getElem?_drop]; exact hc2)
                refine s_move rfl rfl rfl rfl ?_
                refine s_move rfl rfl rfl rfl ?_
                refine s_move rfl rfl rfl rfl ?_
                refine b_byte rfl rfl rfl rfl rfl rfl (by omega) (hc2) ?_
                refine p_eql rfl rfl rfl rfl rfl (fun h172 => ?_) (fun h172 => ?_)
                · refine s_pick rfl rfl rfl rfl rfl ?_
                  refine s_pick rfl rfl rfl rfl rfl ?_
                  refine vOrd_nil ?_
                  refine Wp.condT rfl rfl ?_
                  refine Wp.seq ?_
                  refine Wp.region [0, 1, 2, 3, 4] (by kernel_rfl) (by kernel_rfl) ?_
                  refine s_move rfl rfl rfl rfl ?_
                  refine s_move rfl rfl rfl rfl ?_
                  refine s_build rfl rfl rfl rfl rfl (by kernel_rfl) ?_
                  refine s_store rfl rfl rfl rfl rfl rfl rfl (fun w48 sw48 vw48 => ?_)
                  refine s_assign rfl rfl rfl rfl ?_
                  refine vOrd_nil ?_
                  refine Wp.ret ⟨.inr rfl, fun lW => ⟨_, ⟨_, _, res_cell rfl rfl rfl rfl, res_tmp (P := Tryd.prog) rfl rfl, rfl⟩, _, rfl, ?_, lW⟩⟩
                  clear lW
                  have hnB3 : nB (dR 10 (aB (dR 10 l))) = false := decide_eq_false (fun e => by rw [← a2d] at e; have := (none_at hB2).1 e; omega)
                  have hs : daOk l = true := by unfold daOk; rw [hnb, hn2, hnB1]; rw [hnB3, ht4, u8_of (n := 35) h172]; simp
                  rw [show dataL l = some (lineC 5 (numVal l) (numVal (aB (dR 10 l))) z5) by unfold dataL; rw [if_pos hs]] at hsc
                  exact ⟨lineC 5 (numVal l) (numVal (aB (dR 10 l))) z5, true, rfl, by rw [hsc]; rfl, fun _ => hsc, scanL_form hsc⟩
                · refine s_pick rfl rfl rfl rfl rfl ?_
                  refine s_pick rfl rfl rfl rfl rfl ?_
                  refine vOrd_nil ?_
                  refine Wp.condF rfl rfl ?_
                  refine Wp.skip ?_
                  refine Wp.seq ?_
                  refine Wp.region [0, 1, 2] (by kernel_rfl) (by kernel_rfl) ?_
                  refine s_build rfl rfl rfl rfl rfl (by kernel_rfl) ?_
                  refine s_store rfl rfl rfl rfl rfl rfl rfl (fun w49 sw49 vw49 => ?_)
                  refine s_assign rfl rfl rfl rfl ?_
                  refine vOrd_nil ?_
                  refine Wp.ret ⟨.inr rfl, fun lW => ⟨_, ⟨_, _, res_cell rfl rfl rfl rfl, res_tmp (P := Tryd.prog) rfl rfl, rfl⟩, _, rfl, ?_, lW⟩⟩
                  clear lW
                  have hs : daOk l = false := by unfold daOk; rw [decide_eq_false (p := aB (dR 10 (aB (dR 10 l))) = []) (fun e => h163 (by rw [(at_end a2l hB2).2 (by rw [a2d]; exact e)])), ht4, decide_eq_false (p := [c2] = [35]) (by simpa using u8_not (n := 35) h172 (d := 35) rfl)]; simp
                  rw [show dataL l = none by unfold dataL; rw [if_neg (by rw [hs]; decide)]] at hsc
                  exact ⟨_, false, rfl, by rw [hsc]; rfl, (fun h => by cases h), by first | exact zero_line | exact isLine_of (hWs_len (Nat.le_refl 5) _)⟩
              · refine s_move rfl rfl rfl rfl ?_
                refine s_skip rfl rfl rfl ?_
                refine s_skip rfl rfl rfl ?_
                refine s_skip rfl rfl rfl ?_
                refine s_skip rfl rfl rfl ?_
                refine s_pick rfl rfl rfl rfl rfl ?_
                refine s_pick rfl rfl rfl rfl rfl ?_
                refine vOrd_nil ?_
                refine Wp.condF rfl rfl ?_
                refine Wp.skip ?_
                refine Wp.seq ?_
                refine Wp.region [0, 1, 2] (by kernel_rfl) (by kernel_rfl) ?_
                refine s_build rfl rfl rfl rfl rfl (by kernel_rfl) ?_
                refine s_store rfl rfl rfl rfl rfl rfl rfl (fun w50 sw50 vw50 => ?_)
                refine s_assign rfl rfl rfl rfl ?_
                refine vOrd_nil ?_
                refine Wp.ret ⟨.inr rfl, fun lW => ⟨_, ⟨_, _, res_cell rfl rfl rfl rfl, res_tmp (P := Tryd.prog) rfl rfl, rfl⟩, _, rfl, ?_, lW⟩⟩
                clear lW
                have hs : daOk l = false := by unfold daOk; rw [decide_eq_false (p := aB (dR 10 (aB (dR 10 l))) = []) (fun e => h163 (by rw [(at_end a2l hB2).2 (by rw [a2d]; exact e)])), show nB (dR 10 (aB (dR 10 l))) = true from decide_eq_true (by rw [← a2d]; exact (none_at hB2).2 (by omega))]; simp
                rw [show dataL l = none by unfold dataL; rw [if_neg (by rw [hs]; decide)]] at hsc
                exact ⟨_, false, rfl, by rw [hsc]; rfl, (fun h => by cases h), by first | exact zero_line | exact isLine_of (hWs_len (Nat.le_refl 5) _)⟩
        · rw [h145]
          have hn2 : numBad (aB (dR 10 l)) = true := by simpa using h145
          refine s_move rfl rfl rfl rfl ?_
          refine s_extract rfl rfl rfl rfl rfl ?_
          refine s_extract rfl rfl rfl rfl rfl ?_
          refine s_extract rfl rfl rfl rfl rfl ?_
          refine s_assign rfl rfl rfl rfl ?_
          refine s_assign rfl rfl rfl rfl ?_
          refine s_assign rfl rfl rfl rfl ?_
          refine vOrd_nil ?_
          refine Wp.seq ?_
          refine Wp.seq ?_
          refine Wp.region [0, 1, 2, 3, 4, 5, 6] (by kernel_rfl) (by kernel_rfl) ?_
          refine s_move rfl rfl rfl rfl ?_
          refine s_move rfl rfl rfl rfl ?_
          refine p_eql rfl rfl rfl rfl rfl (fun h151 => ?_) (fun h151 => ?_)
          · refine s_move rfl rfl rfl rfl ?_
            refine s_skip rfl rfl rfl ?_
            refine s_skip rfl rfl rfl ?_
            refine s_pick rfl rfl rfl rfl rfl ?_
            refine vOrd_nil ?_
            refine Wp.condT rfl rfl ?_
            refine Wp.seq ?_
            refine Wp.region [0, 1, 2] (by kernel_rfl) (by kernel_rfl) ?_
            refine s_build rfl rfl rfl rfl rfl (by kernel_rfl) ?_
            refine s_store rfl rfl rfl rfl rfl rfl rfl (fun w51 sw51 vw51 => ?_)
            refine s_assign rfl rfl rfl rfl ?_
            refine vOrd_nil ?_
            refine Wp.ret ⟨.inr rfl, fun lW => ⟨_, ⟨_, _, res_cell rfl rfl rfl rfl, res_tmp (P := Tryd.prog) rfl rfl, rfl⟩, _, rfl, ?_, lW⟩⟩
            clear lW
            have hs : daOk l = false := by unfold daOk; rw [show nB (dR 10 l) = true from decide_eq_true (by rw [← a1d]; exact (none_at hA).2 (by omega)), Bool.or_true]; rfl
            rw [show dataL l = none by unfold dataL; rw [if_neg (by rw [hs]; decide)]] at hsc
            exact ⟨_, false, rfl, by rw [hsc]; rfl, (fun h => by cases h), by first | exact zero_line | exact isLine_of (hWs_len (Nat.le_refl 5) _)⟩
          · refine s_move rfl rfl rfl rfl ?_
            refine s_move rfl rfl rfl rfl ?_
            refine s_not rfl rfl rfl rfl ?_
            refine s_pick rfl rfl rfl rfl rfl ?_
            refine vOrd_nil ?_
            refine Wp.condT rfl rfl ?_
            refine Wp.seq ?_
            refine Wp.region [0, 1, 2] (by kernel_rfl) (by kernel_rfl) ?_
            refine s_build rfl rfl rfl rfl rfl (by kernel_rfl) ?_
            refine s_store rfl rfl rfl rfl rfl rfl rfl (fun w52 sw52 vw52 => ?_)
            refine s_assign rfl rfl rfl rfl ?_
            refine vOrd_nil ?_
            refine Wp.ret ⟨.inr rfl, fun lW => ⟨_, ⟨_, _, res_cell rfl rfl rfl rfl, res_tmp (P := Tryd.prog) rfl rfl, rfl⟩, _, rfl, ?_, lW⟩⟩
            clear lW
            have hs : daOk l = false := by unfold daOk; rw [hn2, Bool.or_true]; rfl
            rw [show dataL l = none by unfold dataL; rw [if_neg (by rw [hs]; decide)]] at hsc
            exact ⟨_, false, rfl, by rw [hsc]; rfl, (fun h => by cases h), by first | exact zero_line | exact isLine_of (hWs_len (Nat.le_refl 5) _)⟩
      · rw [h132]
        have hnb : numBad l = true := by simpa using h132
        refine s_move rfl rfl rfl rfl ?_
        refine s_extract rfl rfl rfl rfl rfl ?_
        refine s_extract rfl rfl rfl rfl rfl ?_
        refine s_extract rfl rfl rfl rfl rfl ?_
        refine s_assign rfl rfl rfl rfl ?_
        refine s_assign rfl rfl rfl rfl ?_
        refine s_assign rfl rfl rfl rfl ?_
        refine vOrd_nil ?_
        refine Wp.seq ?_
        refine Wp.seq ?_
        refine Wp.region [0, 1] (by kernel_rfl) (by kernel_rfl) ?_
        refine s_move rfl rfl rfl rfl ?_
        refine s_not rfl rfl rfl rfl ?_
        refine vOrd_nil ?_
        refine Wp.condT rfl rfl ?_
        refine Wp.seq ?_
        refine Wp.region [0, 1, 2] (by kernel_rfl) (by kernel_rfl) ?_
        refine s_build rfl rfl rfl rfl rfl (by kernel_rfl) ?_
        refine s_store rfl rfl rfl rfl rfl rfl rfl (fun w53 sw53 vw53 => ?_)
        refine s_assign rfl rfl rfl rfl ?_
        refine vOrd_nil ?_
        refine Wp.ret ⟨.inr rfl, fun lW => ⟨_, ⟨_, _, res_cell rfl rfl rfl rfl, res_tmp (P := Tryd.prog) rfl rfl, rfl⟩, _, rfl, ?_, lW⟩⟩
        clear lW
        have hs : daOk l = false := by unfold daOk; rw [hnb]; rfl
        rw [show dataL l = none by unfold dataL; rw [if_neg (by rw [hs]; decide)]] at hsc
        exact ⟨_, false, rfl, by rw [hsc]; rfl, (fun h => by cases h), by first | exact zero_line | exact isLine_of (hWs_len (Nat.le_refl 5) _)⟩
end Go.Proofs.YthjgilocbfhffaaDoor
