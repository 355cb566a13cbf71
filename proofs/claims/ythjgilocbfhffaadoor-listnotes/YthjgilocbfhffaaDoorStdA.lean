/-
  The library's functions that layer 11 calls, in plain words: strconv.Itoa, strconv.FormatUint at base 16, strings.Join, strings.Repeat. Of texts of no more than 2^47 bytes.
-/
import Derived.Test.YthjgilocbfhffaaDoorStdL
import Derived.Test.YthjgilocbfhffaaDoorVcM
import Derived.Test.YthjgilocbfhffaaDoorLexC
import Derived.Test.YthjgilocbfhffaaDoorLexD
import Derived.Lib.LaidTab
namespace Go.Proofs.YthjgilocbfhffaaDoor
open Go.RowKit
set_option maxRecDepth 100000

/-! ### The library's tables -/
def deB64 : List Int := [0, 1, 56, 2, 57, 49, 28, 3, 61, 58, 42, 50, 38, 29, 17, 4, 62, 47, 59, 36, 45, 43, 51, 22, 53, 39, 33, 30, 24, 18, 12, 5, 63, 55, 48, 27, 60, 41, 37, 16, 46, 35, 44, 21, 52, 32, 23, 11, 54, 26, 40, 15, 34, 20, 31, 10, 25, 14, 19, 9, 13, 8, 7, 6]
def TabAt (w : World) (g : Nat) (k : IntKind) (zs : List Int) : Prop := ∃ t p, w.heap[g]? = some (.cells (zs.map (Value.int k)).toArray t p)
theorem TabAt.later {w w' : World} {g : Nat} {k : IntKind} {zs : List Int} (h : TabAt w g k zs) (l : Later w w') : TabAt w' g k zs := by
  obtain ⟨t, p, h⟩ := h
  exact ⟨t, p, by rw [l.block g (Array.getElem?_eq_some_iff.1 h).1]; exact h⟩
theorem TabAt.is {w : World} {g : Nat} {k : IntKind} {zs : List Int} (h : TabAt w g k zs) {nm : String} (hg : Tryd.prog.globalNamed nm = some g) : Lib.TabIs Tryd.prog w nm k zs := by
  obtain ⟨t, p, h⟩ := h
  unfold Lib.TabIs World.var?
  rw [hg, Option.bind_some, h]
theorem TabAt.of {w : World} {g : Nat} {k : IntKind} {zs : List Int} {nm : String} (hg : Tryd.prog.globalNamed nm = some g) (h : Lib.TabIs Tryd.prog w nm k zs) : TabAt w g k zs := by
  unfold Lib.TabIs World.var? at h
  rw [hg, Option.bind_some] at h
  split at h
  · rename_i cs t p hb
    cases h
    exact ⟨t, p, hb⟩
  · cases h
/-- The tables that strconv and math/bits read. -/
structure Tab (w : World) : Prop where
  p : TabAt w 0 .u64 Lib.pow10Tab
  b : TabAt w 3 .u8 deB64
theorem Tab.later {w w' : World} (h : Tab w) (l : Later w w') : Tab w' := ⟨h.p.later l, h.b.later l⟩
theorem Tab.at16 {w : World} (h : Tab w) : w.cell? ⟨3, 15, none⟩ = some (.int .u8 4) := by
  obtain ⟨t, p, h⟩ := h.b
  rw [cell_of_row w 3 _ _ t p h]
  simp [deB64]
theorem below_grow (w : World) (k : Nat) (os : Array Obj) : Below w.heap.size w (Sort.grow (w.drewN k) os) :=
  ⟨rfl, rfl, rfl, by simp [Sort.grow, World.drewN], fun i hi => by
    have : (Sort.grow (w.drewN k) os).heap = w.heap ++ os := rfl
    rw [this, Array.getElem?_append_left hi]⟩

/-! ### strconv.Itoa -/
theorem itoa_dec {f n : Nat} (h : n < 10 ^ (f + 1)) : Lib.decDigits n = decF f n := by
  have e : ∀ m, UInt8.ofNat (48 + m % 10) = dgt m := fun _ => rfl
  induction f generalizing n with
  | zero =>
    have h : n < 10 := h
    rw [Lib.decDigits_one h]
    show _ = [dgt n]
    rw [← e, Nat.mod_eq_of_lt h]
  | succ f ih =>
    by_cases q : n < 10
    · rw [Lib.decDigits_one q, decF, if_pos q, ← e, Nat.mod_eq_of_lt q]
    · rw [Lib.decDigits, dif_neg q, decF, if_neg q, ih (by rw [Nat.pow_succ] at h; omega), e]
/-- A number of no more than 18 digits, as its digits. -/
def decD (n : Int) : List UInt8 := decF 17 n.toNat
theorem itoa_any {n : Int} (h0 : 0 ≤ n) (h1 : n < 1000000000000000000) {w : World} (hT : Tab w) : Calls Tryd.prog 24 #[.int .i64 n] w fun e w' => ∃ r, e = .returned r ∧ r = .string ⟨⟨decD n⟩⟩ ∧ Below w.heap.size w w' := by
  have key := Any.strconv_Itoa Tryd.laysItoa n (by omega) (by omega) w (hT.p.is (by kernel_rfl))
  refine Calls.mono key ?_
  rintro e w' ⟨rfl, k, os, rfl⟩
  refine ⟨_, rfl, ?_, below_grow _ _ _⟩
  obtain ⟨N, rfl⟩ := Int.eq_ofNat_of_zero_le h0
  rw [Lib.itoa_nonneg, itoa_dec (f := 17) (by omega)]
  rfl

/-! ### strconv.FormatUint at base 16 -/
def hxd (n : Nat) : UInt8 := UInt8.ofNat (if n % 16 < 10 then 48 + n % 16 else 87 + n % 16)
def hexF : Nat → Nat → List UInt8
  | 0, n => [hxd n]
  | f + 1, n => if n < 16 then [hxd n] else hexF f (n / 16) ++ [hxd n]
theorem hxd_nat (n : Nat) : (hxd n).toNat = if n % 16 < 10 then 48 + n % 16 else 87 + n % 16 := by
  unfold hxd
  rw [UInt8.toNat_ofNat', Nat.mod_eq_of_lt]
  split <;> omega
theorem hxd_mod (n : Nat) : hxd (n % 16) = hxd n := by unfold hxd; rw [Nat.mod_mod]
/-- The digits that strconv has. -/
def dig36 : List UInt8 := [48, 49, 50, 51, 52, 53, 54, 55, 56, 57, 97, 98, 99, 100, 101, 102, 103, 104, 105, 106, 107, 108, 109, 110, 111, 112, 113, 114, 115, 116, 117, 118, 119, 120, 121, 122]
theorem dig36_fin : ∀ i : Fin 16, dig36[i.val]? = some (hxd i.val) := by decide
theorem dig36_at {n : Nat} (h : n < 16) : dig36[n]? = some (hxd n) := dig36_fin ⟨n, h⟩
theorem pow2_any (w : World) : Calls Tryd.prog 87 #[.int .i64 16] w fun e w' => ∃ r, e = .returned r ∧ r = .bool true ∧ Below w.heap.size w w' := by
  refine calls_Wp (args := [_]) (n := 8) Tryd.func87 rfl rfl (by simp) ?_
  refine Wp.seq ?_
  refine Wp.region [0] (by kernel_rfl) (by kernel_rfl) ?_
  refine s_assign rfl rfl rfl rfl ?_
  refine vOrd_nil ?_
  refine Wp.seq ?_
  refine Wp.region [0, 1, 2, 3, 4, 5] (by kernel_rfl) (by kernel_rfl) ?_
  refine s_move rfl rfl rfl rfl ?_
  refine s_move rfl rfl rfl rfl ?_
  refine s_val (v := .int .i64 15) rfl rfl rfl rfl (fun _ => by kernel_rfl) ?_
  refine s_val (v := .int .i64 0) rfl rfl rfl rfl (fun _ => by kernel_rfl) ?_
  refine s_val (v := .bool true) rfl rfl rfl rfl (fun _ => by kernel_rfl) ?_
  refine s_assign rfl rfl rfl rfl ?_
  refine vOrd_nil ?_
  refine Wp.ret ⟨.inr rfl, fun lW => ⟨_, res_tmp (P := Tryd.prog) rfl rfl, _, rfl, ?_, lW⟩⟩
  clear lW
  rfl
theorem tz64_any {w : World} (hT : Tab w) : Calls Tryd.prog 98 #[.int .u64 16] w fun e w' => ∃ r, e = .returned r ∧ r = .int .i64 4 ∧ Below w.heap.size w w' := by
  refine calls_Wp (args := [_]) (n := 14) Tryd.func98 rfl rfl (by simp) ?_
  refine Wp.seq ?_
  refine Wp.region [0] (by kernel_rfl) (by kernel_rfl) ?_
  refine s_assign rfl rfl rfl rfl ?_
  refine vOrd_nil ?_
  refine Wp.seq ?_
  refine Wp.seq ?_
  refine Wp.region [0, 1] (by kernel_rfl) (by kernel_rfl) ?_
  refine s_move rfl rfl rfl rfl ?_
  refine f_eql rfl rfl rfl rfl rfl (by omega) ?_
  refine vOrd_nil ?_
  refine Wp.condF rfl rfl ?_
  refine Wp.skip ?_
  refine Wp.seq ?_
  refine Wp.old (fun lo => ?_)
  have tb := hT.later lo
  clear lo
  refine Wp.region [0, 1, 2, 3, 4, 5, 6, 7, 8, 9] (by kernel_rfl) (by kernel_rfl) ?_
  refine s_move rfl rfl rfl rfl ?_
  refine s_move rfl rfl rfl rfl ?_
  refine s_val (v := .int .u64 18446744073709551600) rfl rfl rfl rfl (fun _ => by kernel_rfl) ?_
  refine s_val (v := .int .u64 16) rfl rfl rfl rfl (fun _ => by kernel_rfl) ?_
  refine s_val (v := .int .u64 4573923408821661840) rfl rfl rfl rfl (fun _ => by kernel_rfl) ?_
  refine s_val (v := .int .u64 15) rfl rfl rfl rfl (fun _ => by kernel_rfl) ?_
  refine s_idxT (sz := 1) 15 rfl rfl rfl rfl rfl rfl rfl (by decide) (by decide) (by decide) ?_
  refine x_ldc rfl rfl rfl rfl rfl tb.at16 ?_
  refine a_conv (-9223372036854775808) 9223372036854775807 (by decide) rfl rfl rfl rfl rfl rfl (by omega) (by omega) ?_
  refine s_assign rfl rfl rfl rfl ?_
  refine vOrd_nil ?_
  refine Wp.ret ⟨.inr rfl, fun lW => ⟨_, res_tmp (P := Tryd.prog) rfl rfl, _, rfl, ?_, lW⟩⟩
  clear lW
  rfl
theorem tz_any {w : World} (hT : Tab w) : Calls Tryd.prog 88 #[.int .u64 16] w fun e w' => ∃ r, e = .returned r ∧ r = .int .i64 4 ∧ Below w.heap.size w w' := by
  refine calls_Wp (args := [_]) (n := 8) Tryd.func88 rfl rfl (by simp) ?_
  refine Wp.seq ?_
  refine Wp.region [0] (by kernel_rfl) (by kernel_rfl) ?_
  refine s_assign rfl rfl rfl rfl ?_
  refine vOrd_nil ?_
  refine Wp.seq ?_
  refine Wp.condF rfl rfl ?_
  refine Wp.skip ?_
  refine Wp.seq ?_
  refine Wp.old (fun lo => ?_)
  have tb := hT.later lo
  clear lo
  refine Wp.region [0, 1, 2] (by kernel_rfl) (by kernel_rfl) ?_
  refine s_move rfl rfl rfl rfl ?_
  refine s_callT rfl rfl rfl (by kernel_rfl) rfl (tz64_any tb) ?_
  rintro v w1 rfl lw1
  replace tb := tb.later lw1
  refine s_assign rfl rfl rfl rfl ?_
  refine vOrd_nil ?_
  refine Wp.ret ⟨.inr rfl, fun lW => ⟨_, res_tmp (P := Tryd.prog) rfl rfl, _, rfl, ?_, lW⟩⟩
  clear lW
  rfl
/-- What the array holds when k digits are laid. -/
def fmtC (k : Nat) (t : List UInt8) : List Value := List.replicate (65 - k) (.int .u8 0) ++ bytesV t
theorem fmtC_set {P : Program} {ty : TypeId} {k : Nat} {t : List UInt8} (hs : (P.info? ty).map (·.size) = some 1) (hk : k < 65) (c : UInt8) : writeOf P ty (fmtC k t) (64 - k) (.int .u8 c.toNat) = some (fmtC (k + 1) (c :: t)) := by
  rw [write_one hs rfl rfl (by simp [fmtC, bytesV_len]; omega)]
  congr 1
  unfold fmtC
  rw [List.set_append_left _ _ (by simp; omega), show 65 - k = (64 - k) + 1 by omega, List.replicate_succ', List.set_append_right _ _ (by simp), List.length_replicate, Nat.sub_self, show 65 - (k + 1) = 64 - k by omega]
  simp [bytesV]
theorem fmtC_bytes {w : World} {b k : Nat} {t : List UInt8} (hv : Var w b (fmtC k t)) : BytesAt w (.slice (some ⟨b, 65 - k, none⟩) t.length t.length) t :=
  .inl ⟨b, 65 - k, t.length, rfl, Nat.le_refl _, fun j x hj => by
    obtain ⟨ty, hv⟩ := hv
    rw [cell_of_row w b _ _ ty _ hv]
    simp only [List.getElem?_toArray]
    unfold fmtC
    rw [List.getElem?_append_right (by simp), List.length_replicate, Nat.add_sub_cancel_left]
    simp [bytesV, hj]⟩
theorem and15 (n : Nat) : bAnd (n : Int) 15 = ((n % 16 : Nat) : Int) := by
  have : n &&& 15 = n % 16 := Nat.and_two_pow_sub_one_eq_mod n 4
  unfold bAnd
  simp only [Int.toNat_natCast]
  rw [← this]
  rfl
/-- n less its k last digits, and these. -/
theorem hex_next {f m : Nat} (h : ¬ m < 16) (t : List UInt8) : hexF (f + 1) m ++ t = hexF f (m / 16) ++ hxd m :: t := by
  rw [hexF, if_neg h]; simp
theorem hex_last {f m : Nat} (h : m < 16) : hexF f m = [hxd m] := by
  cases f with
  | zero => rfl
  | succ f => rw [hexF, if_pos h]
theorem dig36_j {m : Nat} (h : m < 16) : dig36[(m : Int).toNat]? = some (hxd m) := dig36_at h
theorem dig36_i (m : Nat) : dig36[((m % 16 : Nat) : Int).toNat]? = some (hxd m) := by
  rw [← hxd_mod]; exact dig36_at (Nat.mod_lt _ (by decide))
theorem bits16_any {n : Nat} (hn : n < 4294967296) {w : World} (hT : Tab w) : Calls Tryd.prog 69 #[.slice none 0 0, .int .u64 (n : Int), .int .i64 16, .bool false, .bool false] w fun e w' => ∃ r, e = .returned r ∧ r = .tuple #[.slice none 0 0, .string ⟨⟨hexF 7 n⟩⟩] ∧ Below w.heap.size w w' := by
  refine calls_Wp (args := [_, _, _, _, _]) (n := 102) Tryd.func69 rfl rfl (by simp) ?_
  refine Wp.seq ?_
  refine Wp.region [0, 1] (by kernel_rfl) (by kernel_rfl) ?_
  refine s_assign rfl rfl rfl rfl ?_
  refine s_assign rfl rfl rfl rfl ?_
  refine vOrd_nil ?_
  refine Wp.seq ?_
  refine Wp.seq ?_
  refine Wp.region [0, 1, 2, 3, 4, 5, 6, 7, 8, 9] (by kernel_rfl) (by kernel_rfl) ?_
  refine s_move rfl rfl rfl rfl ?_
  refine f_lss rfl rfl rfl rfl rfl (by omega) ?_
  refine s_move rfl rfl rfl rfl ?_
  refine s_move rfl rfl rfl rfl ?_
  refine f_eql rfl rfl rfl rfl rfl (by omega) ?_
  refine s_pick rfl rfl rfl rfl rfl ?_
  refine s_move rfl rfl rfl rfl ?_
  refine s_move rfl rfl rfl rfl ?_
  refine f_gtr rfl rfl rfl rfl rfl (by omega) ?_
  refine s_pick rfl rfl rfl rfl rfl ?_
  refine vOrd_nil ?_
  refine Wp.condF rfl rfl ?_
  refine Wp.skip ?_
  refine Wp.seq ?_
  refine Wp.region [0] (by kernel_rfl) (by kernel_rfl) ?_
  refine s_allocS (fmtC 0 []) rfl rfl rfl rfl (by kernel_rfl) (fun b12 wb12 kb12 lb12 => ?_)
  refine vOrd_nil ?_
  refine Wp.seq ?_
  refine Wp.region [0] (by kernel_rfl) (by kernel_rfl) ?_
  refine s_assign rfl rfl rfl rfl ?_
  refine vOrd_nil ?_
  refine Wp.seq ?_
  refine Wp.seq ?_
  refine Wp.region [0] (by kernel_rfl) (by kernel_rfl) ?_
  refine s_move rfl rfl rfl rfl ?_
  refine vOrd_nil ?_
  refine Wp.condF rfl rfl ?_
  refine Wp.skip ?_
  refine Wp.seq ?_
  refine Wp.seq ?_
  refine Wp.old (fun lo => ?_)
  have tb := hT.later lo
  clear lo
  refine Wp.region [0, 1] (by kernel_rfl) (by kernel_rfl) ?_
  refine s_move rfl rfl rfl rfl ?_
  refine s_callT rfl rfl rfl (by kernel_rfl) rfl (pow2_any _) ?_
  rintro v w2 rfl lw2
  replace tb := tb.later lw2
  refine vOrd_nil ?_
  refine Wp.condT rfl rfl ?_
  refine Wp.seq ?_
  refine Wp.old (fun lo => ?_)
  have tb := hT.later lo
  clear lo
  refine Wp.region [0, 1, 2, 3, 4] (by kernel_rfl) (by kernel_rfl) ?_
  refine s_move rfl rfl rfl rfl ?_
  refine a_conv (0) 18446744073709551615 (by decide) rfl rfl rfl rfl rfl rfl (by omega) (by omega) ?_
  refine s_callT rfl rfl rfl (by kernel_rfl) rfl (tz_any tb) ?_
  rintro v w3 rfl lw3
  replace tb := tb.later lw3
  refine a_conv (0) 18446744073709551615 (by decide) rfl rfl rfl rfl rfl rfl (by omega) (by omega) ?_
  refine s_assign rfl rfl rfl rfl ?_
  refine vOrd_nil ?_
  refine Wp.seq ?_
  refine Wp.region [0, 1, 2] (by kernel_rfl) (by kernel_rfl) ?_
  refine s_move rfl rfl rfl rfl ?_
  refine a_conv (0) 18446744073709551615 (by decide) rfl rfl rfl rfl rfl rfl (by omega) (by omega) ?_
  refine s_assign rfl rfl rfl rfl ?_
  refine vOrd_nil ?_
  refine Wp.seq ?_
  refine Wp.region [0, 1, 2, 3] (by kernel_rfl) (by kernel_rfl) ?_
  refine s_move rfl rfl rfl rfl ?_
  refine a_conv (0) 18446744073709551615 (by decide) rfl rfl rfl rfl rfl rfl (by omega) (by omega) ?_
  refine s_val (v := .int .u64 15) rfl rfl rfl rfl (fun _ => by kernel_rfl) ?_
  refine s_assign rfl rfl rfl rfl ?_
  refine vOrd_nil ?_
  refine Wp.seq ?_
  refine Wp.block ?_
  refine Wp.loop (fun q st _ => ∃ (k : Nat) (t : List UInt8) (m : Nat) (u p : Int), st = St.of [(0, .v (.slice none 0 0)), (1, .v (.int .u64 u)), (2, .v (.int .i64 16)), (3, .v (.bool false)), (4, .v (.bool false)), (10, .v (.slice none 0 0)), (12, .p 12 b12 0), (13, .v (.int .i64 p)), (14, .v (.int .u64 4)), (15, .v (.int .u64 16)), (16, .v (.int .u64 15))] [(12, b12, fmtC k t)] ∧ u = (m : Int) ∧ p = 65 - (k : Int) ∧ k + 1 ≤ 8 ∧ t.length = k ∧ m < 16 ^ (8 - k) ∧ m ≤ n ∧ hexF (7 - k) m ++ t = hexF 7 n ∧ q = 8 - k) ?_ ?_
  · exact ⟨_, _, (St.of_le' (env := [(0, .v _), (1, .v _), (2, .v _), (3, .v _), (4, .v _), (10, .v _), (12, .p 12 _ 0), (13, .v _), (14, .v _), (15, .v _), (16, .v _)]) (mem := [(12, _, _)]) ⟨rfl, rfl, rfl, rfl, rfl, rfl, rfl, rfl, rfl, rfl, rfl, trivial⟩ ⟨rfl, trivial⟩), 0, [], n, _, _, rfl, rfl, rfl, by omega, rfl, by simpa using hn, Nat.le_refl _, by simp, rfl⟩
  · rintro k st w5 ⟨k, t, m, u, p, rfl, rfl, rfl, hk, ht, hm, hmn, hx, rfl⟩
    refine Wp.seq ?_
    refine Wp.seq ?_
    refine Wp.region [0, 1, 2] (by kernel_rfl) (by kernel_rfl) ?_
    refine s_move rfl rfl rfl rfl ?_
    refine s_move rfl rfl rfl rfl ?_
    refine p_geq rfl rfl rfl rfl rfl (fun h46 => ?_) (fun h46 => ?_)
    · have hbig : ¬ m < 16 := by omega
      have hk7 : k < 7 := by
        rcases Nat.lt_or_ge k 7 with q | q
        · exact q
        · have e : k = 7 := by omega
          subst e
          omega
      obtain ⟨f, hf⟩ : ∃ f, 7 - k = f + 1 := ⟨7 - k - 1, by omega⟩
      have hx1 := hex_next (f := f) hbig t
      rw [← hf] at hx1
      have hx2 : hexF (7 - k) m ++ t = hexF 7 n := hx
      rw [show f = 7 - (k + 1) by omega] at hx1
      have hm1 : m / 16 < 16 ^ (8 - (k + 1)) := by
        rw [show 8 - k = (8 - (k + 1)) + 1 by omega, Nat.pow_succ] at hm
        omega
      refine vOrd_nil ?_
      refine Wp.condT rfl rfl ?_
      refine Wp.skip ?_
      refine Wp.block ?_
      refine Wp.seq ?_
      refine Wp.region [0, 1, 2] (by kernel_rfl) (by kernel_rfl) ?_
      refine s_move rfl rfl rfl rfl ?_
      refine a_sub (-9223372036854775808) 9223372036854775807 (by decide) rfl rfl rfl rfl rfl (by omega) (by omega) ?_
      refine s_assign rfl rfl rfl rfl ?_
      refine vOrd_nil ?_
      refine Wp.seq ?_
      refine Wp.region [0, 1, 2, 3, 4, 5, 6] (by kernel_rfl) (by kernel_rfl) ?_
      refine s_move rfl rfl rfl rfl ?_
      refine s_move rfl rfl rfl rfl ?_
      refine s_move rfl rfl rfl rfl ?_
      refine a_and 64 18446744073709551615 (by decide) rfl rfl rfl rfl rfl (by omega) (by omega) (by omega) (by omega) ?_
      rw [and15]
      refine b_byte rfl rfl rfl rfl rfl rfl (by omega) ((dig36_i m)) ?_
      refine s_idxO (sz := 1) (64 - k) rfl rfl rfl rfl rfl rfl rfl (by omega) (by omega) (by omega) ?_
      refine s_storeS rfl rfl rfl rfl rfl rfl (fmtC_set (k := k) rfl (by omega) (hxd m)) (fun ws9 ss9 vs9 => ?_)
      refine vOrd_nil ?_
      refine Wp.region [0, 1, 2, 3] (by kernel_rfl) (by kernel_rfl) ?_
      refine s_move rfl rfl rfl rfl ?_
      refine s_move rfl rfl rfl rfl ?_
      refine a_shr (16) rfl rfl rfl rfl rfl (by omega) (by decide) ?_
      refine s_assign rfl rfl rfl rfl ?_
      refine vOrd_nil ?_
      exact ⟨_, _, by omega, (St.of_le' (env := [(0, .v _), (1, .v _), (2, .v _), (3, .v _), (4, .v _), (10, .v _), (12, .p 12 _ 0), (13, .v _), (14, .v _), (15, .v _), (16, .v _)]) (mem := [(12, _, _)]) ⟨rfl, rfl, rfl, rfl, rfl, rfl, rfl, rfl, rfl, rfl, rfl, trivial⟩ ⟨rfl, trivial⟩), k + 1, hxd m :: t, m / 16, _, _, rfl, by omega, by omega, by omega, by simp [ht], hm1, by omega, by rw [← hx2]; exact hx1.symm, rfl⟩
    · have hsm : m < 16 := by omega
      refine vOrd_nil ?_
      refine Wp.condF rfl rfl ?_
      refine Wp.exit ?_
      refine Wp.seq ?_
      refine Wp.region [0, 1, 2] (by kernel_rfl) (by kernel_rfl) ?_
      refine s_move rfl rfl rfl rfl ?_
      refine a_sub (-9223372036854775808) 9223372036854775807 (by decide) rfl rfl rfl rfl rfl (by omega) (by omega) ?_
      refine s_assign rfl rfl rfl rfl ?_
      refine vOrd_nil ?_
      refine Wp.region [0, 1, 2, 3, 4] (by kernel_rfl) (by kernel_rfl) ?_
      refine s_move rfl rfl rfl rfl ?_
      refine s_move rfl rfl rfl rfl ?_
      refine b_byte rfl rfl rfl rfl rfl rfl (by omega) ((dig36_j hsm)) ?_
      refine s_idxO (sz := 1) (64 - k) rfl rfl rfl rfl rfl rfl rfl (by omega) (by omega) (by omega) ?_
      refine s_storeS rfl rfl rfl rfl rfl rfl (fmtC_set (k := k) rfl (by omega) (hxd m)) (fun ws11 ss11 vs11 => ?_)
      refine vOrd_nil ?_
      refine Wp.seq ?_
      refine Wp.seq ?_
      refine Wp.region [0] (by kernel_rfl) (by kernel_rfl) ?_
      refine s_move rfl rfl rfl rfl ?_
      refine vOrd_nil ?_
      refine Wp.condF rfl rfl ?_
      refine Wp.skip ?_
      refine Wp.seq ?_
      refine Wp.seq ?_
      refine Wp.region [0] (by kernel_rfl) (by kernel_rfl) ?_
      refine s_move rfl rfl rfl rfl ?_
      refine vOrd_nil ?_
      refine Wp.condF rfl rfl ?_
      refine Wp.skip ?_
      refine Wp.seq ?_
      refine Wp.var (h := 12) rfl (fun hv => ?_)
      refine Wp.region [0, 1, 2, 3] (by kernel_rfl) (by kernel_rfl) ?_
      refine s_move rfl rfl rfl rfl ?_
      refine s_sliceF rfl rfl rfl rfl rfl rfl rfl (by omega) (by omega) ?_
      refine x_strB (l := hxd m :: t) rfl rfl rfl rfl rfl rfl rfl ?_ ?_
      · have hb := fmtC_bytes hv
        rw [show (65 - (k : Int) - 1).toNat = 65 - (k + 1) by omega, show 65 - (65 - (k + 1)) = (hxd m :: t).length by simp [ht]; omega]
        exact hb
      refine s_assign rfl rfl rfl rfl ?_
      refine vOrd_nil ?_
      refine Wp.ret ⟨.inr rfl, fun lW => ⟨_, ⟨_, _, res_tmp (P := Tryd.prog) rfl rfl, res_tmp (P := Tryd.prog) rfl rfl, rfl⟩, _, rfl, ?_, lW⟩⟩
      clear lW
      rw [hex_last hsm] at hx
      rw [← hx]
      rfl
theorem ifmt16_any {n : Nat} (hn : n < 4294967296) {w : World} (hT : Tab w) : Calls Tryd.prog 53 #[.int .u64 (n : Int), .int .i64 16] w fun e w' => ∃ r, e = .returned r ∧ r = .string ⟨⟨hexF 7 n⟩⟩ ∧ Below w.heap.size w w' := by
  refine calls_Wp (args := [_, _]) (n := 32) Tryd.func53 rfl rfl (by simp) ?_
  refine Wp.seq ?_
  refine Wp.region [0] (by kernel_rfl) (by kernel_rfl) ?_
  refine s_assign rfl rfl rfl rfl ?_
  refine vOrd_nil ?_
  refine Wp.seq ?_
  refine Wp.seq ?_
  refine Wp.region [0, 1] (by kernel_rfl) (by kernel_rfl) ?_
  refine s_move rfl rfl rfl rfl ?_
  refine f_eql rfl rfl rfl rfl rfl (by omega) ?_
  refine vOrd_nil ?_
  refine Wp.condF rfl rfl ?_
  refine Wp.skip ?_
  refine Wp.seq ?_
  refine Wp.old (fun lo => ?_)
  have tb := hT.later lo
  clear lo
  refine Wp.region [0, 1, 2, 3, 4, 5, 6, 7] (by kernel_rfl) (by kernel_rfl) ?_
  refine s_move rfl rfl rfl rfl ?_
  refine s_move rfl rfl rfl rfl ?_
  refine s_callT rfl rfl rfl (by kernel_rfl) rfl (bits16_any hn tb) ?_
  rintro v w1 rfl lw1
  replace tb := tb.later lw1
  refine s_move rfl rfl rfl rfl ?_
  refine s_extract rfl rfl rfl rfl rfl ?_
  refine s_extract rfl rfl rfl rfl rfl ?_
  refine s_assign rfl rfl rfl rfl ?_
  refine s_assign rfl rfl rfl rfl ?_
  refine vOrd_nil ?_
  refine Wp.seq ?_
  refine Wp.region [0, 1] (by kernel_rfl) (by kernel_rfl) ?_
  refine s_move rfl rfl rfl rfl ?_
  refine s_assign rfl rfl rfl rfl ?_
  refine vOrd_nil ?_
  refine Wp.ret ⟨.inr rfl, fun lW => ⟨_, res_tmp (P := Tryd.prog) rfl rfl, _, rfl, ?_, lW⟩⟩
  clear lW
  rfl
theorem fmt16_any {n : Nat} (hn : n < 4294967296) {w : World} (hT : Tab w) : Calls Tryd.prog 36 #[.int .u64 (n : Int), .int .i64 16] w fun e w' => ∃ r, e = .returned r ∧ r = .string ⟨⟨hexF 7 n⟩⟩ ∧ Below w.heap.size w w' := by
  refine calls_Wp (args := [_, _]) (n := 8) Tryd.func36 rfl rfl (by simp) ?_
  refine Wp.seq ?_
  refine Wp.region [0] (by kernel_rfl) (by kernel_rfl) ?_
  refine s_assign rfl rfl rfl rfl ?_
  refine vOrd_nil ?_
  refine Wp.seq ?_
  refine Wp.old (fun lo => ?_)
  have tb := hT.later lo
  clear lo
  refine Wp.region [0, 1, 2, 3] (by kernel_rfl) (by kernel_rfl) ?_
  refine s_move rfl rfl rfl rfl ?_
  refine s_move rfl rfl rfl rfl ?_
  refine s_callT rfl rfl rfl (by kernel_rfl) rfl (ifmt16_any hn tb) ?_
  rintro v w1 rfl lw1
  replace tb := tb.later lw1
  refine s_assign rfl rfl rfl rfl ?_
  refine vOrd_nil ?_
  refine Wp.ret ⟨.inr rfl, fun lW => ⟨_, res_tmp (P := Tryd.prog) rfl rfl, _, rfl, ?_, lW⟩⟩
  clear lW
  rfl
/-! ### strings.Repeat, strings.Join -/
theorem repeat_any (c : Nat) (hc : c ≤ 100) (w : World) : Calls Tryd.prog 37 #[.string ⟨⟨[48]⟩⟩, .int .i64 (c : Int)] w fun e w' => ∃ r, e = .returned r ∧ r = .string ⟨⟨List.replicate c 48⟩⟩ ∧ Below w.heap.size w w' := by
  refine Calls.mono (Any.strings_Repeat Tryd.laysRepeat Tryd.laysRepeatX ⟨⟨[48]⟩⟩ c w (by omega) (by show 1 * c ≤ _; omega)) ?_
  rintro e w' ⟨rfl, hb⟩
  refine ⟨_, rfl, ?_, hb⟩
  have e1 : Lib.repeatL [48] c = List.replicate c 48 := by
    have e2 := Lib.repeatL_replicate (48 : UInt8) 1 c
    simpa using e2
  show Value.string ⟨(Lib.repeatL [48] c).toArray⟩ = _
  rw [e1]
/-- Parts with a byte 9 between. -/
def tabJ : List (List UInt8) → List UInt8
  | [] => []
  | [x] => x
  | x :: y :: r => x ++ 9 :: tabJ (y :: r)
theorem tabJ_join : ∀ L : List (List UInt8), Lib.join L [9] = tabJ L
  | [] => rfl
  | [x] => by rw [Lib.join_one]; rfl
  | x :: y :: r => by
    have ih := tabJ_join (y :: r)
    rw [tabJ, ← ih, Lib.join_cons, Lib.join_cons]
    simp [Lib.joinTail]
theorem join_any {a : Option Addr} {L : List (List UInt8)} {c : Nat} {w : World} (hS : StrAt w a L) (hL : L.length ≤ c) (h0 : L ≠ []) (hn : L.length ≤ 1000) (hl : (tabJ L).length ≤ 100000) : Calls Tryd.prog 33 #[.slice a L.length c, .string ⟨⟨[9]⟩⟩] w fun e w' => ∃ r, e = .returned r ∧ r = .string ⟨⟨tabJ L⟩⟩ ∧ Below w.heap.size w w' := by
  obtain ⟨x, hx⟩ : ∃ x, L[0]? = some x := by
    cases L with
    | nil => exact absurd rfl h0
    | cons x r => exact ⟨x, rfl⟩
  obtain ⟨b, off, rfl, hc0⟩ := hS 0 x hx
  have e1 : (L.map fun l => (⟨⟨l⟩⟩ : ByteArray)).map (·.data.toList) = L := by rw [List.map_map]; exact List.map_id L
  have key := Any.strings_Join Tryd.laysJoin Tryd.laysJoinX b off c (L.map fun l => (⟨⟨l⟩⟩ : ByteArray)) ⟨⟨[9]⟩⟩ w (fun j y hj => by
    rw [List.getElem?_map, Option.map_eq_some_iff] at hj
    obtain ⟨z, hz, rfl⟩ := hj
    obtain ⟨b', off', e, hc⟩ := hS j z hz
    cases e
    exact hc) (World.block_lt_of_cell? w _ hc0) (by simp; omega) (by simpa using hL) (by rw [e1]; show (Lib.join L [9]).length ≤ _; rw [tabJ_join]; omega)
  rw [e1, List.length_map] at key
  refine Calls.mono key ?_
  rintro e w' ⟨rfl, hb⟩
  exact ⟨_, rfl, by show Value.string ⟨(Lib.join L [9]).toArray⟩ = _; rw [tabJ_join], hb⟩
end Go.Proofs.YthjgilocbfhffaaDoor
