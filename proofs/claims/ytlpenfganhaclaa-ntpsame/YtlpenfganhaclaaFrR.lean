/-
  The reference's Power, Code, Least, Octets, Number, Below, Same (layer 19). Conditions: no more than 16 octets.
-/
import Derived.Test.YtlpenfganhaclaaOcA
import Derived.Test.YtlpenfganhaclaaDayR
import Derived.Test.YtlpenfganhaclaaVcN
import Derived.Test.YtlpenfganhaclaaShaA
namespace Go.Proofs.Ytlpenfganhaclaa
open Go.RowKit
set_option maxRecDepth 100000

theorem c_pw2 (n : Nat) {z : Int} (hz : (n : Int) = z) (hn : n ≤ 1000000) (w : World) : Calls Try.prog 34 #[.int .i64 z] w fun e w' => ∃ u, e = .returned u ∧ IsBig (n / 16 + 1) (p2 n) u w' ∧ Below w.heap.size w w' := by
  refine (pow2_lit n z hz hn w).mono ?_
  rintro e w' ⟨a, l, c, rfl, h1, h2⟩
  exact ⟨_, rfl, ⟨_, _, _, rfl, h1⟩, h2⟩
theorem zbig (n : Nat) (w : World) : IsBig n 0 (.agg #[.bool false, .slice none 0 0]) w :=
  ⟨none, 0, 0, rfl, [], ⟨none, 0, 0, 0, rfl, Nat.le_refl _, by simp [maxLen], .inl ⟨rfl, rfl⟩, fun j hj => by simp at hj⟩, fun i => by simp, .inl rfl, Nat.zero_le _, rfl⟩
theorem eqI_iff {a b : Int} : eqI a b = true ↔ a = b := by unfold eqI; exact decide_eq_true_iff
theorem byteF_at {l : List UInt8} {i : Nat} {b : UInt8} (h : l[i]? = some b) : byteF l i = b.toNat := by unfold byteF; rw [List.getD_eq_getElem?_getD, h]; rfl
theorem BytesAt.row {w : World} {u : Value} {l : List UInt8} (h : BytesAt w u l) (hl : 0 < l.length) : ∃ b off c, u = .slice (some ⟨b, off, none⟩) l.length c ∧ l.length ≤ c ∧ ∀ j, j < l.length → w.cell? ⟨b, off + j, none⟩ = some (.int .u8 (byteF l j)) := by
  rcases h with ⟨b, off, c, h1, h2, h3⟩ | ⟨h1, rfl⟩
  · refine ⟨b, off, c, h1, h2, fun j hj => ?_⟩
    have e : l[j]? = some l[j] := List.getElem?_eq_getElem hj
    rw [byteF_at e]
    exact h3 j _ e
  · cases hl
theorem take_snocB {l : List UInt8} {i : Nat} {b : UInt8} (h : l[i]? = some b) : l.take (i + 1) = l.take i ++ [b] := by
  rw [List.take_add_one, h]; rfl
/-- What is told of the least attosecond of a code. -/
def lsB (f : Int) (k : Nat) : Bool := decide (flI f k ≠ 1000000000000000000 ∧ fcI (flI f k) k = f)
def lsZ (f : Int) (k : Nat) : Int := if lsB f k = true then flI f k else 0
theorem ls_yes {f : Int} {k : Nat} (h : flI f k ≠ 1000000000000000000 ∧ fcI (flI f k) k = f) : lsB f k = true ∧ lsZ f k = flI f k := by
  have e : lsB f k = true := by unfold lsB; exact decide_eq_true h
  exact ⟨e, if_pos e⟩
theorem ls_no {f : Int} {k : Nat} (h : ¬ (flI f k ≠ 1000000000000000000 ∧ fcI (flI f k) k = f)) : lsB f k = false ∧ lsZ f k = 0 := by
  have e : lsB f k = false := by unfold lsB; exact decide_eq_false h
  exact ⟨e, if_neg (by rw [e]; decide)⟩
theorem write_low {P : Program} {t : TypeId} {l : List UInt8} {j : Nat} (hj : j < l.length) (n : Int) (hs : (P.info? t).map (·.size) = some 1) : writeOf P t (bytesV l) j (.int .u8 (n % 256)) = some (bytesV (l.set j (lowB n))) := by
  rw [write_one hs rfl rfl (by rw [bytesV_len]; exact hj), ← lowB_nat n]
  unfold bytesV
  rw [List.map_set]
theorem bytes_noI (l : List UInt8) : (bytesV l).all noI = true := by simp [bytesV, noI]
theorem zeros_set (m : Nat) (r : List UInt8) (x : UInt8) : (List.replicate (m + 1) 0 ++ r).set m x = List.replicate m 0 ++ x :: r := by
  rw [List.replicate_succ', List.append_assoc, List.set_append_right _ _ (by simp)]
  simp
theorem made_zeros (n : Nat) (z : Value) (hz : z.cells = #[.int .u8 0]) : (madeCells z.cells (n * 1)).toList = bytesV (List.replicate n 0) := by
  rw [hz]
  have h := toList_madeCells_one (.int .u8 0) (n * 1)
  rw [Nat.mul_one] at h ⊢
  exact h.trans (by unfold bytesV; rw [List.map_replicate]; rfl)

theorem rpow_any (k : Nat) {n : Int} (hn : (k : Int) = n) (hk : k ≤ 16) {w : World} : Calls Try.prog 16 #[.int .i64 n] w fun e w' => ∃ r, e = .returned r ∧ IsBig 9 (oP k) r w' ∧ Below w.heap.size w w' := by
  refine calls_Wp (args := [_]) (n := 6) Try.func16 rfl rfl (by simp) ?_
  refine Wp.seq ?_
  refine wR [0] ?_
  refine sO (fun bk1 w1 kb1 lw1 => ?_)
  refine vOrd_nil ?_
  refine qQ 1 ?_
  refine a_mul (-9223372036854775808) 9223372036854775807 (by decide) rfl rfl rfl rfl rfl (by omega) (by omega) ?_
  refine s_callT rfl rfl rfl (by kernel_rfl) rfl (c_pw2 (8 * k) (by omega) (by omega) _) ?_
  rintro v w2 h1 lw2
  replace h1 := h1.upto (m := 9) (by omega)
  obtain ⟨h1a, h1l, h1c, rfl, -⟩ := id h1
  refine sS (fun w3 sw3 vw3 => ?_)
  refine vOrd_nil ?_
  refine Wp.ret ⟨.inr rfl, fun lW => ⟨_, res_cell rfl rfl rfl rfl, _, rfl, ?_, lW⟩⟩
  clear lW
  exact h1.kp
theorem rcode_any {a : Int} (ha : I64 a) (k : Nat) {n : Int} (hn : (k : Int) = n) (hk : k ≤ 16) {w : World} : Calls Try.prog 32 #[.int .i64 a, .int .i64 n] w fun e w' => ∃ r, e = .returned r ∧ IsBig 15 (fcI a k) r w' ∧ Below w.heap.size w w' := by
  obtain ⟨a0, a1⟩ := ha
  refine calls_Wp (args := [_, _]) (n := 18) Try.func32 rfl rfl (by simp) ?_
  refine Wp.seq ?_
  refine wR [0] ?_
  refine sO (fun bk1 w1 kb1 lw1 => ?_)
  refine vOrd_nil ?_
  refine qQ 1 ?_
  refine s_callT rfl rfl rfl (by kernel_rfl) rfl (c_rint a (by omega) (by omega) _) ?_
  rintro v w2 h1 lw2
  refine sM ?_
  refine sT (rpow_any k hn hk) ?_
  rintro v w3 h2 lw3
  refine s_callT rfl rfl rfl (by kernel_rfl) rfl (c_mul (h1.kp) (h2.kp) (by decide) (by decide)) ?_
  rintro v w4 h3 lw4
  refine s_callT rfl rfl rfl (by kernel_rfl) rfl (c_rint 1000000000000000000 (by decide) (by decide) _) ?_
  rintro v w5 h4 lw5
  refine s_callT rfl rfl rfl (by kernel_rfl) rfl (c_div (h3.kp) (h4.kp) (by decide) (by decide) (by decide)) ?_
  rintro v w6 ⟨xv, yv, rfl, hx, hy⟩ lw6
  obtain ⟨hxa, hxl, hxc, rfl, -⟩ := id hx
  obtain ⟨hya, hyl, hyc, rfl, -⟩ := id hy
  refine sQ 3 ?_
  refine sO (fun bk7 w7 kb7 lw7 => ?_)
  refine sO (fun bk8 w8 kb8 lw8 => ?_)
  refine sS (fun w9 sw9 vw9 => ?_)
  refine sS (fun w10 sw10 vw10 => ?_)
  refine vOrd_nil ?_
  refine qQ 1 ?_
  refine sS (fun w11 sw11 vw11 => ?_)
  refine vOrd_nil ?_
  refine Wp.ret ⟨.inr rfl, fun lW => ⟨_, res_cell rfl rfl rfl rfl, _, rfl, ?_, lW⟩⟩
  clear lW
  exact hx.kp
theorem rleast_any {f : Int} {u : Value} {m : Nat} {w : World} (hf : IsBig m f u w) (hm : m ≤ 1000) (k : Nat) {n : Int} (hn : (k : Int) = n) (hk : k ≤ 16) (h0 : 0 ≤ f ∧ f < oP k) : Calls Try.prog 40 #[u, .int .i64 n] w fun e w' => ∃ r, e = .returned r ∧ r = .tuple #[.int .i64 (lsZ f k), .bool (lsB f k)] ∧ Below w.heap.size w w' := by
  obtain ⟨hfa, hfl, hfc, rfl, -⟩ := id hf
  have hL0 := fl_low (k := k) h0.1
  have hL1 := fl_top h0.2
  refine calls_Wp (args := [_, _]) (n := 36) Try.func40 rfl rfl (by simp) ?_
  refine Wp.seq ?_
  refine wR [0, 1, 2] ?_
  refine sE (fun bk1 w1 kb1 lw1 => ?_)
  refine sZ 2 ?_
  refine qZ ?_
  refine Wp.seq ?_
  refine Wp.block ?_
  refine Wp.loop (fun q st W => ∃ lo hi : Int, st = St.of [(1, .v (.int .i64 n)), (2, .p 2 bk1 0), (6, .v (.int .i64 lo)), (7, .v (.int .i64 hi))] [(2, bk1, [.bool (sg f), .slice hfa hfl hfc])] ∧ 0 ≤ lo ∧ lo ≤ flI f k ∧ flI f k ≤ hi ∧ hi ≤ 1000000000000000000 ∧ q = (hi - lo).toNat) ?_ ?_
  · exact ⟨_, _, (St.of_le' (env := [(1, .v _), (2, .p 2 _ 0), (6, .v _), (7, .v _)]) (mem := [(2, _, [_, _])]) ⟨rfl, rfl, rfl, rfl, trivial⟩ ⟨rfl, trivial⟩), 0, 1000000000000000000, rfl, by omega, by omega, by omega, by omega, rfl⟩
  · rintro k st w2 ⟨lo, hi, rfl, i1, i2, i3, i4, rfl⟩
    refine Wp.seq ?_
    refine qQ 2 ?_
    refine p_lss rfl rfl rfl rfl rfl (fun h11 => ?_) (fun h11 => ?_)
    · refine vOrd_nil ?_
      refine Wp.condT rfl rfl ?_
      refine Wp.skip ?_
      refine Wp.block ?_
      refine qQ 2 ?_
      refine aP (-9223372036854775808) 9223372036854775807 ?_
      refine a_quo rfl rfl rfl rfl rfl (by omega) (by omega) (by show _ ≤ (9223372036854775807 : Int); omega) ?_
      refine sZ 1 ?_
      refine Wp.seq ?_
      refine Wp.old (fun lq => ?_)
      have hfw := hf.later lq
      have hii := @fl_iff ((lo + hi) / 2) f k
      have hcc := @cmpI_low (fcI ((lo + hi) / 2) k) f
      refine wD [0, 1, 3, 2, 4, 5] [10, 9, 7, 0, 0, 0] (fun | 2 => IsBig 15 (fcI ((lo + hi) / 2) k) | 4 => fun v _ => v = .int .i64 (cmpI (fcI ((lo + hi) / 2) k) f) | _ => fun _ _ => True) (fun _ _ => ?_)
      refine sQ 3 ?_
      refine sD (fun wc lc => rcode_any ⟨by omega, by omega⟩ k hn hk) ?_
      rintro v w3 u3 h1 lw3 mw3
      refine s_callD rfl rfl rfl (by kernel_rfl) rfl (fun wc lc => c_cmp (h1.kp) (hfw.kp) (by decide) (by omega)) ?_
      rintro v w4 u4 rfl lw4 mw4
      refine p_geq rfl rfl rfl rfl rfl (fun h21 => ?_) (fun h21 => ?_)
      · refine vOrd_nil ?_
        refine Wp.condT rfl rfl ?_
        refine wZ ?_
        exact ⟨_, _, by omega, (St.of_le' (env := [(1, .v _), (2, .p 2 _ 0), (6, .v _), (7, .v _)]) (mem := [(2, _, [_, _])]) ⟨rfl, rfl, rfl, rfl, trivial⟩ ⟨rfl, trivial⟩), _, _, rfl, by omega, by omega, by omega, by omega, rfl⟩
      · refine vOrd_nil ?_
        refine Wp.condF rfl rfl ?_
        refine wQ 1 ?_
        refine aP (-9223372036854775808) 9223372036854775807 ?_
        refine sZ 1 ?_
        exact ⟨_, _, by omega, (St.of_le' (env := [(1, .v _), (2, .p 2 _ 0), (6, .v _), (7, .v _)]) (mem := [(2, _, [_, _])]) ⟨rfl, rfl, rfl, rfl, trivial⟩ ⟨rfl, trivial⟩), _, _, rfl, by omega, by omega, by omega, by omega, rfl⟩
    · obtain rfl : lo = flI f k := by omega
      refine vOrd_nil ?_
      refine Wp.condF rfl rfl ?_
      refine Wp.exit ?_
      refine Wp.seq ?_
      refine Wp.seq ?_
      refine Wp.old (fun lq => ?_)
      have hfw := hf.later lq
      refine wD [0, 1, 2, 3, 4, 6, 5, 7, 8, 9] [0, 0, 0, 87, 79, 63, 0, 0, 0, 0] (fun | 5 => IsBig 15 (fcI (flI f k) k) | 7 => fun v _ => v = .bool (eqI (fcI (flI f k) k) f) | _ => fun _ _ => True) (fun _ _ => ?_)
      refine sM ?_
      refine p_eql rfl rfl rfl rfl rfl (fun h26 => ?_) (fun h26 => ?_)
      · have hls := ls_no (f := f) (k := k) (fun q => q.1 h26)
        refine sZ 8 ?_
        refine Wp.condT rfl rfl ?_
        refine qZ ?_
        refine Wp.ret ⟨.inr rfl, fun lW => ⟨_, ⟨_, _, res_tmp (P := Try.prog) rfl rfl, res_tmp (P := Try.prog) rfl rfl, rfl⟩, _, rfl, ?_, lW⟩⟩
        clear lW
        rw [hls.1, hls.2]
      · refine sQ 4 ?_
        refine sD (fun wc lc => rcode_any ⟨by omega, by omega⟩ k hn hk) ?_
        rintro v w5 u5 h1 lw5 mw5
        refine s_callD rfl rfl rfl (by kernel_rfl) rfl (fun wc lc => c_same (h1.kp) (hfw.kp) (by decide) (by omega)) ?_
        rintro v w6 u6 rfl lw6 mw6
        rcases Bool.eq_false_or_eq_true (eqI (fcI (flI f k) k) f) with h32 | h32
        · rw [h32]
          have hls := ls_yes (f := f) (k := k) ⟨h26, eqI_iff.1 h32⟩
          refine sZ 2 ?_
          refine Wp.condF rfl rfl ?_
          refine Wp.skip ?_
          refine qZ ?_
          refine Wp.ret ⟨.inr rfl, fun lW => ⟨_, ⟨_, _, res_tmp (P := Try.prog) rfl rfl, res_tmp (P := Try.prog) rfl rfl, rfl⟩, _, rfl, ?_, lW⟩⟩
          clear lW
          rw [hls.1, hls.2]
        · rw [h32]
          have hls := ls_no (f := f) (k := k) (fun q => by rw [eqI_iff.2 q.2] at h32; cases h32)
          refine sZ 2 ?_
          refine Wp.condT rfl rfl ?_
          refine qZ ?_
          refine Wp.ret ⟨.inr rfl, fun lW => ⟨_, ⟨_, _, res_tmp (P := Try.prog) rfl rfl, res_tmp (P := Try.prog) rfl rfl, rfl⟩, _, rfl, ?_, lW⟩⟩
          clear lW
          rw [hls.1, hls.2]
theorem rnumber_any {l : List UInt8} {u : Value} {w : World} (hu : BytesAt w u l) (hl : l.length ≤ 64) : Calls Try.prog 41 #[u] w fun e w' => ∃ r, e = .returned r ∧ IsBig 400 (numL l) r w' ∧ Below w.heap.size w w' := by
  obtain ⟨ua, uc, rfl⟩ := hu.slice
  refine calls_Wp (args := [_]) (n := 23) Try.func41 rfl rfl (by simp) ?_
  refine Wp.seq ?_
  refine wR [0] ?_
  refine sO (fun bk1 w1 kb1 lw1 => ?_)
  refine vOrd_nil ?_
  refine Wp.seq ?_
  refine wR [0, 1, 2] ?_
  refine sB ?_
  refine sO (fun bk2 w2 kb2 lw2 => ?_)
  refine sS (fun w3 sw3 vw3 => ?_)
  refine vOrd_nil ?_
  refine Wp.seq ?_
  refine qZ ?_
  refine Wp.block ?_
  refine Wp.loop (fun q st W => ∃ (i : Nat) (p : Int) (na : Option Addr) (nl nc : Nat), st = St.of [(0, .v (.slice ua l.length uc)), (2, .p 2 bk1 0), (3, .p 3 bk2 0), (4, .v (.int .i64 p))] [(2, bk1, [.bool false, .slice none 0 0]), (3, bk2, [.bool (sg (numL (l.take i))), .slice na nl nc])] ∧ p = (i : Int) ∧ i ≤ l.length ∧ IsBig (6 * i + 1) (numL (l.take i)) (.agg #[.bool (sg (numL (l.take i))), .slice na nl nc]) W ∧ q = l.length - i) ?_ ?_
  · exact ⟨_, _, (St.of_le' (env := [(0, .v _), (2, .p 2 _ 0), (3, .p 3 _ 0), (4, .v _)]) (mem := [(2, _, [_, _]), (3, _, [_, _])]) ⟨rfl, rfl, rfl, rfl, trivial⟩ ⟨rfl, rfl, trivial⟩), 0, 0, _, _, _, rfl, rfl, Nat.zero_le _, zbig _ _, rfl⟩
  · rintro k st w4 ⟨i, p, na, nl, nc, rfl, hp, hi, hn, rfl⟩
    refine Wp.seq ?_
    refine qQ 2 ?_
    refine x_len rfl rfl rfl rfl rfl ?_
    refine p_lss rfl rfl rfl rfl rfl (fun h9 => ?_) (fun h9 => ?_)
    · refine vOrd_nil ?_
      refine Wp.condT rfl rfl ?_
      refine Wp.skip ?_
      refine Wp.seq ?_
      refine Wp.block ?_
      subst hp
      refine Wp.old (fun lq => ?_)
      have huw := hu.later lq
      obtain ⟨ub, uo, uc2, hue, huc, hcell⟩ := huw.row (by omega)
      obtain ⟨b, hb⟩ : ∃ b, l[i]? = some b := ⟨_, List.getElem?_eq_getElem (by omega)⟩
      simp only [Value.slice.injEq] at hue
      obtain ⟨rfl, -, rfl⟩ := hue
      have hci := hcell i (by omega)
      have hbi := byteF_in l i
      refine wD [0, 3, 4, 5, 6, 7, 1, 2, 8, 9, 10] [250, 23, 15, 31, 63, 127, 0, 0, 0, 0, 0] (fun | 1 => IsBig 5 256 | 2 => IsBig (6 * i + 1 + 5) (numL (l.take i) * 256) | 8 => IsBig 5 (byteF l i) | 9 => IsBig (max (6 * i + 1 + 5) 5 + 1) (numL (l.take i) * 256 + byteF l i) | _ => fun _ _ => True) (fun wd ld => ?_)
      refine sQ 3 ?_
      refine sI (sz := 1) (uo + i) ?_
      refine xC (cell_later ld hci) ?_
      refine a_conv (-9223372036854775808) 9223372036854775807 (by decide) rfl rfl rfl rfl rfl rfl (by omega) (by omega) ?_
      refine s_callD rfl rfl rfl (by kernel_rfl) rfl (fun wc lc => c_rint 256 (by decide) (by decide) wc) ?_
      rintro v w7 u7 h1 lw7 mw7
      refine s_callD rfl rfl rfl (by kernel_rfl) rfl (fun wc lc => c_mul (hn.kp) (h1.kp) (by omega) (by decide)) ?_
      rintro v w8 u8 h2 lw8 mw8
      refine s_callD rfl rfl rfl (by kernel_rfl) rfl (fun wc lc => c_rint (byteF l i) (by omega) (by omega) wc) ?_
      rintro v w9 u9 h3 lw9 mw9
      refine s_callD rfl rfl rfl (by kernel_rfl) rfl (fun wc lc => c_add (h2.kp) (h3.kp) (by omega) (by decide)) ?_
      rintro v w10 u10 h4 lw10 mw10
      have hst : numL (l.take i) * 256 + byteF l i = numL (l.take (i + 1)) := by rw [take_snocB hb, numL_snoc, byteF_at hb]
      replace h4 := (h4.eq hst).upto (m := 6 * (i + 1) + 1) (by omega)
      obtain ⟨h4a, h4l, h4c, rfl, -⟩ := id h4
      refine sS (fun w11 sw11 vw11 => ?_)
      refine vOrd_nil ?_
      refine wQ 1 ?_
      refine aP (-9223372036854775808) 9223372036854775807 ?_
      refine sZ 1 ?_
      exact ⟨_, _, by omega, (St.of_le' (env := [(0, .v _), (2, .p 2 _ 0), (3, .p 3 _ 0), (4, .v _)]) (mem := [(2, _, [_, _]), (3, _, [_, _])]) ⟨rfl, rfl, rfl, rfl, trivial⟩ ⟨rfl, rfl, trivial⟩), i + 1, _, _, _, _, rfl, by omega, by omega, h4.kp, rfl⟩
    · obtain rfl : i = l.length := by omega
      rw [List.take_length] at hn ⊢
      refine vOrd_nil ?_
      refine Wp.condF rfl rfl ?_
      refine Wp.exit ?_
      refine qQ 1 ?_
      refine sS (fun w12 sw12 vw12 => ?_)
      refine vOrd_nil ?_
      refine Wp.ret ⟨.inr rfl, fun lW => ⟨_, res_cell rfl rfl rfl rfl, _, rfl, ?_, lW⟩⟩
      clear lW
      exact (hn.kp).upto (by omega)
theorem rocts_any {n : Int} {u : Value} {m : Nat} {w : World} (hu : IsBig m n u w) (hm : m ≤ 1000) (k : Nat) {z : Int} (hz : (k : Int) = z) (hk : k ≤ 16) : Calls Try.prog 30 #[u, .int .i64 z] w fun e w' => ∃ r, e = .returned r ∧ (∃ c, r = .slice (some ⟨c, 0, none⟩) k k ∧ w.heap.size ≤ c ∧ Var w' c (bytesV (octL n k))) ∧ Below w.heap.size w w' := by
  obtain ⟨hua, hul, huc, rfl, -⟩ := id hu
  subst hz
  refine calls_Wp (args := [_, _]) (n := 37) Try.func30 rfl rfl (by simp) ?_
  refine Wp.seq ?_
  refine wR [0, 1] ?_
  refine sE (fun bk1 w1 kb1 lw1 => ?_)
  refine sZ 1 ?_
  refine Wp.seq ?_
  refine Wp.var (h := 2) rfl (fun v2 => ?_)
  have q2 := v2.lt
  refine wQ 1 ?_
  refine s_make (k1 := .i64) (k2 := .i64) (n := k) (e := 5) rfl rfl rfl rfl rfl rfl rfl rfl (by show (1 : Int) * _ ≤ _; omega) (by omega) ?_
  intro cw ww hcw lww hroww
  have hrz : RowIs ww cw 5 (bytesV (List.replicate k 0)) := by rw [← made_zeros k (.int .u8 0) rfl]; exact hroww
  have vw0 := hrz.var
  refine sZ 1 ?_
  refine Wp.seq ?_
  refine Wp.seq ?_
  have hcz : w.heap.size ≤ cw := by have := lw1.size; omega
  refine Wp.adopt 1007 vw0 (by omega) rfl (show AllMem (fun d => d ≠ cw) _ from (by repeat (first | exact AllMem.args | exact AllMem.of (by simp only [AllL, and_true]; omega) | refine AllMem.put ?_ | refine AllMem.new ?_ (by omega) | refine AllMem.set ?_ (by omega)))) ?_
  refine wQ 1 ?_
  refine aM (-9223372036854775808) 9223372036854775807 ?_
  refine sZ 1 ?_
  refine Wp.block ?_
  rw [show sg n = sg (n / oP 0) by rw [oP_0, Int.ediv_one], show bytesV (List.replicate k 0) = bytesV (List.replicate (k - 0) 0 ++ octL n 0) by rw [Nat.sub_zero, octL, List.append_nil]]
  refine Wp.loop (fun q st W => ∃ (i : Nat) (p : Int) (na : Option Addr) (nl nc : Nat), st = St.of [(2, .p 2 bk1 0), (5, .v (.slice (some ⟨cw, 0, none⟩) k k)), (6, .v (.int .i64 p))] [(2, bk1, [.bool (sg (n / oP i)), .slice na nl nc]), (1007, cw, bytesV (List.replicate (k - i) 0 ++ octL n i))] ∧ p = (k : Int) - 1 - i ∧ i ≤ k ∧ IsBig (m + 8 + i) (n / oP i) (.agg #[.bool (sg (n / oP i)), .slice na nl nc]) W ∧ q = k - i) ?_ ?_
  · exact ⟨_, _, (St.of_le' (env := [(2, .p 2 _ 0), (5, .v _), (6, .v _)]) (mem := [(2, _, [_, _]), (1007, _, _)]) ⟨rfl, rfl, rfl, trivial⟩ ⟨rfl, rfl, trivial⟩), 0, (k : Int) - 1, _, _, _, rfl, by omega, Nat.zero_le _, (by rw [oP_0, Int.ediv_one]; exact (hu.kp).upto (by omega)), rfl⟩
  · rintro k st w6 ⟨i, p, na, nl, nc, rfl, hp, hi, hn, rfl⟩
    refine Wp.seq ?_
    refine qQ 1 ?_
    refine p_geq rfl rfl rfl rfl rfl (fun h16 => ?_) (fun h16 => ?_)
    · refine vOrd_nil ?_
      refine Wp.condT rfl rfl ?_
      refine Wp.skip ?_
      refine Wp.seq ?_
      refine Wp.block ?_
      refine Wp.seq ?_
      refine wD [0, 6, 7, 1, 2, 3, 4, 5, 8, 9] [194, 191, 127, 0, 0, 0, 239, 479, 0, 0] (fun | 1 => IsBig 5 256 | 2 => fun v w => ∃ x y, v = .tuple #[x, y] ∧ IsBig (max (m + 8 + i) 4 + 1) (n / oP i / 256) x w ∧ IsBig 6 (n / oP i % 256) y w | _ => fun _ _ => True) (fun _ _ => ?_)
      refine sL ?_
      refine sO (fun bk7 w7 kb7 lw7 => ?_)
      refine sO (fun bk8 w8 kb8 lw8 => ?_)
      refine s_callD rfl rfl rfl (by kernel_rfl) rfl (fun wc lc => c_rint 256 (by decide) (by decide) wc) ?_
      rintro v w9 u9 h1 lw9 mw9
      refine s_callD rfl rfl rfl (by kernel_rfl) rfl (fun wc lc => c_div (hn.kp) (h1.kp) (by decide) (by omega) (by decide)) ?_
      rintro v w10 u10 ⟨xv, yv, rfl, hx, hy⟩ lw10 mw10
      obtain ⟨hxa, hxl, hxc, rfl, -⟩ := id hx
      obtain ⟨hya, hyl, hyc, rfl, -⟩ := id hy
      refine sQ 3 ?_
      refine sS (fun w11 sw11 vw11 => ?_)
      refine sS (fun w12 sw12 vw12 => ?_)
      refine vOrd_nil ?_
      refine qQ 1 ?_
      refine s_callT rfl rfl rfl (by kernel_rfl) rfl (rsmall_any (hy.kp) (by decide)) ?_
      rintro v w13 rfl lw13
      have hq0 := Int.emod_nonneg (n / oP i) (show (256 : Int) ≠ 0 by decide)
      have hq1 := Int.emod_lt_of_pos (n / oP i) (show (0 : Int) < 256 by decide)
      rw [(int_yes (z := n / oP i % 256) (inI_iff.2 (by omega))).1]
      refine sZ 5 ?_
      refine qQ 3 ?_
      refine a_conv (0) 255 (by decide) rfl rfl rfl rfl rfl rfl (by omega) (by omega) ?_
      refine sI (sz := 1) (k - 1 - i) ?_
      refine s_storeR 1007 rfl rfl rfl rfl rfl rfl (write_low (by simp only [List.length_append, List.length_replicate]; omega) _ rfl) (fun wB hsB hvB => ?_)
      replace hx := (hx.kp).keeps (Keeps.stored hsB hvB (bytes_noI _))
      refine vOrd_nil ?_
      rw [show k - i = (k - 1 - i) + 1 by omega, zeros_set, ← octL_cons, show k - 1 - i = k - (i + 1) by omega]
      refine wQ 1 ?_
      refine sS (fun w17 sw17 vw17 => ?_)
      refine vOrd_nil ?_
      have hqe : n / oP i / 256 = n / oP (i + 1) := by rw [oP_succ, Int.ediv_ediv_of_nonneg (Int.le_of_lt (oP_pos i))]
      rw [hqe] at hx ⊢
      refine wQ 1 ?_
      refine aM (-9223372036854775808) 9223372036854775807 ?_
      refine sZ 1 ?_
      exact ⟨_, _, by omega, (St.of_le' (env := [(2, .p 2 _ 0), (5, .v _), (6, .v _)]) (mem := [(2, _, [_, _]), (1007, _, _)]) ⟨rfl, rfl, rfl, trivial⟩ ⟨rfl, rfl, trivial⟩), i + 1, _, _, _, _, rfl, by omega, by omega, (hx.kp).upto (by omega), rfl⟩
    · obtain rfl : i = k := by omega
      refine vOrd_nil ?_
      refine Wp.condF rfl rfl ?_
      refine Wp.exit ?_
      refine Wp.seq ?_
      rw [Nat.sub_self]
      refine Wp.var (h := 1007) rfl (fun v7 => ?_)
      refine wZ ?_
      refine Wp.ret ⟨.inr rfl, fun lW => ⟨_, res_tmp (P := Try.prog) rfl rfl, _, rfl, ?_, lW⟩⟩
      clear lW
      exact ⟨_, rfl, hcz, v7⟩
end Go.Proofs.Ytlpenfganhaclaa
