/-
 The contracts of the reference numbers' first functions: a slice that reads as digits; trim; cmp. No conditions beside the memory's own.
-/
import Derived.Test.YthihioakjpmnbaaGreatRows
import Derived.Test.YthihioakjpmnbaaGreatRefM
import Derived.WalkKit
import Derived.WalkSpells
import Derived.WalkLawsBesides
import Derived.Handy
import Derived.Deep.QuietTactic
import Derived.BigQuiet
import Derived.Deep.RegionHeld3
import Derived.Deep.AppendLies
namespace Go.Proofs.YthihioakjpmnbaaGreat
open Go.RowKit

/-! ### Numbers of two words -/
/-- h and l are words, and the number z is h times 2^64, and l. -/
def LimbIs (h l z : Int) : Prop := 0 ≤ h ∧ h < 18446744073709551616 ∧ 0 ≤ l ∧ l < 18446744073709551616 ∧ z = h * 18446744073709551616 + l
theorem LimbIs.range {h l z : Int} (k : LimbIs h l z) : 0 ≤ z ∧ z < 340282366920938463463374607431768211456 := by
 obtain ⟨_, _, _, _, _⟩ := k; omega
theorem LimbIs.same {h l h' l' z : Int} (k : LimbIs h l z) (k' : LimbIs h' l' z) : h = h' ∧ l = l' := by
 obtain ⟨_, _, _, _, _⟩ := k; obtain ⟨_, _, _, _, _⟩ := k'; omega
theorem LimbIs.other {h l h' l' z z' : Int} (k : LimbIs h l z) (k' : LimbIs h' l' z') (n : z ≠ z') : ¬ (h = h' ∧ l = l') := by
 obtain ⟨_, _, _, _, _⟩ := k; obtain ⟨_, _, _, _, _⟩ := k'; omega
/-- A carry, as the bool that the program tells. -/
def overB (a b : Int) : Bool := decide (340282366920938463463374607431768211456 ≤ a + b)
def lessB (a b : Int) : Bool := decide (a < b)

/-! ### Worlds -/
theorem bthen {B : Nat} {w w1 w2 : World} (h : Below B w w1) (hB : B ≤ w1.heap.size) (k : Below w1.heap.size w1 w2) : Below B w w2 := h.trans (k.mono hB)

theorem isSome_setCell (w : World) (a : Addr) (v : Value) (b : Addr) : ((w.setCell a v).cell? b).isSome = (w.cell? b).isSome := by
 by_cases h : a = b
 ·subst h
  by_cases hs : (w.cell? a).isSome = true
  ·rw [World.cell?_setCell_same' _ _ _ hs]; simp [hs]
  ·simp only [World.setCell, World.cell?, Array.getElem?_modify] at hs ⊢
   cases hh : w.heap[a.block]? with
   | none => simp
   | some x =>
    cases x <;> simp_all
    cases hsp : a.spot.isSome
    ·simp only [Bool.false_eq_true, if_false]
     rw [Bool.eq_iff_iff]; simp
    ·simp
 ·rw [World.cell?_setCell_other _ _ _ _ h]

/-- A variable of two cells is still there, as it was, behind a call. -/
def Two (w : World) (b : Nat) (u v : Value) : Prop := w.cell? ⟨b, 0, none⟩ = some u ∧ w.cell? ⟨b, 1, none⟩ = some v ∧ w.frozen? ⟨b, 0, none⟩ = false ∧ w.frozen? ⟨b, 1, none⟩ = false
theorem two_later {W w1 : World} (hb : Below W.heap.size W w1) {b : Nat} {u v : Value} (h : Two W b u v) : Two w1 b u v ∧ b < w1.heap.size := by
 obtain ⟨h0, h1, f0, f1⟩ := h
 have k : b < W.heap.size := World.block_lt_of_cell? _ _ h0
 exact ⟨⟨cell_later hb h0, cell_later hb h1, (hb.frozen (p := ⟨b, 0, none⟩) k).trans f0, (hb.frozen (p := ⟨b, 1, none⟩) k).trans f1⟩, Nat.lt_of_lt_of_le k hb.size⟩

/-! ### The two intrinsics, over Int -/
theorem add64 (x y c : Int) (hx : 0 ≤ x) (hy : 0 ≤ y) (hc0 : 0 ≤ c) (hc : c ≤ 1) (w : World) : (callFunc 117 #[.int .u64 x, .int .u64 y, .int .u64 c]).run Tryz.prog w =
  .ok (.value (.tuple #[.int .u64 ((x + y + c) % 18446744073709551616), .int .u64 ((x + y + c) / 18446744073709551616)])) w := by
 rw [run_callFunc_extern Tryz.func117 (by kernel_rfl) (by kernel_rfl) (by kernel_rfl) (e := add64Entry) (by kernel_rfl), run_add64 x y c hx hy hc0 hc]
 rfl
theorem add64_0 (x y : Int) (hx : 0 ≤ x) (hy : 0 ≤ y) (w : World) : (callFunc 117 #[.int .u64 x, .int .u64 y, .int .u64 0]).run Tryz.prog w =
  .ok (.value (.tuple #[.int .u64 ((x + y) % 18446744073709551616), .int .u64 ((x + y) / 18446744073709551616)])) w := by
 simpa using add64 x y 0 hx hy (Int.le_refl 0) (by decide) w
/-- The borrow under a name. -/
def bor (x y : Int) : Int := if x < y then 1 else 0
theorem bor_01 (x y : Int) : 0 ≤ bor x y ∧ bor x y ≤ 1 := by unfold bor; split <;> decide
def subEntry : Array Value → Sem Value := (Extern.MathBitsCarry.rows.getD 1 ("", fun _ => stuck "")).2
theorem sub64 (x y b : Int) (hx : 0 ≤ x) (hy : 0 ≤ y) (hy' : y < 18446744073709551616) (hb0 : 0 ≤ b) (hb : b ≤ 1) (w : World) : (callFunc 130 #[.int .u64 x, .int .u64 y, .int .u64 b]).run Tryz.prog w =
  .ok (.value (.tuple #[.int .u64 ((x - y - b) % 18446744073709551616), .int .u64 (bor x (y + b))])) w := by
 obtain ⟨x, rfl⟩ := Int.eq_ofNat_of_zero_le hx
 obtain ⟨y, rfl⟩ := Int.eq_ofNat_of_zero_le hy
 obtain ⟨b, rfl⟩ := Int.eq_ofNat_of_zero_le hb0
 rw [run_callFunc_extern Tryz.func130 (by kernel_rfl) (by kernel_rfl) (by kernel_rfl) (e := subEntry) (by kernel_rfl)]
 have key : (subEntry #[.int .u64 x, .int .u64 y, .int .u64 b]).run Tryz.prog w = .ok (.tuple #[.int .u64 (((x + 18446744073709551616 - y - b) % 18446744073709551616 : Nat) : Int), .int .u64 ((if x < y + b then 1 else 0 : Nat) : Int)]) w := by
  have : b = 0 ∨ b = 1 := by omega
  rcases this with rfl | rfl <;> rfl
 have e1 : (((x + 18446744073709551616 - y - b) % 18446744073709551616 : Nat) : Int) = ((x : Int) - y - b) % 18446744073709551616 := by omega
 have e2 : ((if x < y + b then 1 else 0 : Nat) : Int) = bor (x : Int) (y + b) := by unfold bor; split <;> split <;> omega
 rw [key, e1, e2]
 rfl
theorem sub64_0 (x y : Int) (hx : 0 ≤ x) (hy : 0 ≤ y) (hy' : y < 18446744073709551616) (w : World) : (callFunc 130 #[.int .u64 x, .int .u64 y, .int .u64 0]).run Tryz.prog w =
  .ok (.value (.tuple #[.int .u64 ((x - y) % 18446744073709551616), .int .u64 (bor x y)])) w := by
 simpa using sub64 x y 0 hx hy hy' (Int.le_refl 0) (by decide) w

/-! ### '==' of two Limbs -/
def eqL (a b c d : Int) : Bool := (a == c) && (b == d)
theorem run_eql_limb (a b c d : Int) (w : World) : (binOp .eql 142 (.agg #[.int .u64 a, .int .u64 b]) (.agg #[.int .u64 c, .int .u64 d])).run Tryz.prog w = .ok (.bool (eqL a b c d)) w := by
 unfold eqL
 by_cases h1 : a = c <;> by_cases h2 : b = d <;> simp [go_sem, h1, h2]
theorem eqL_same {a b c d z : Int} (h : LimbIs a b z) (k : LimbIs c d z) : eqL a b c d = true := by
 obtain ⟨rfl, rfl⟩ := h.same k; simp [eqL]
theorem eqL_other {a b c d z y : Int} (h : LimbIs a b z) (k : LimbIs c d y) (n : z ≠ y) : eqL a b c d = false := by
 have := h.other k n
 unfold eqL
 by_cases h1 : a = c <;> by_cases h2 : b = d <;> simp_all

/-! ### limb.Add, limb.Sub, limb.Cmp -/
theorem add_is {ah al bh bl a b : Int} (ha : LimbIs ah al a) (hb : LimbIs bh bl b) :
  LimbIs ((ah + bh + (al + bl) / 18446744073709551616) % 18446744073709551616) ((al + bl) % 18446744073709551616) ((a + b) % 340282366920938463463374607431768211456) ∧
  ((ah + bh + (al + bl) / 18446744073709551616) / 18446744073709551616 == 1) = overB a b := by
 obtain ⟨_, _, _, _, _⟩ := ha; obtain ⟨_, _, _, _, _⟩ := hb
 refine ⟨⟨by omega, by omega, by omega, by omega, by omega⟩, ?_⟩
 unfold overB; rw [Bool.eq_iff_iff]; simp only [beq_iff_eq, decide_eq_true_eq]; omega
theorem sub_is {ah al bh bl a b : Int} (ha : LimbIs ah al a) (hb : LimbIs bh bl b) :
  LimbIs ((ah - bh - bor al bl) % 18446744073709551616) ((al - bl) % 18446744073709551616) ((a - b) % 340282366920938463463374607431768211456) ∧
  (bor ah (bh + bor al bl) == 1) = lessB a b := by
 obtain ⟨_, _, _, _, _⟩ := ha; obtain ⟨_, _, _, _, _⟩ := hb
 unfold bor
 refine ⟨⟨by omega, by omega, by omega, by omega, by split <;> omega⟩, ?_⟩
 unfold lessB; rw [Bool.eq_iff_iff]; simp only [beq_iff_eq, decide_eq_true_eq]; split <;> split <;> omega

set_option maxHeartbeats 400000 in
theorem add_any {ah al bh bl a b : Int} (ha : LimbIs ah al a) (hb : LimbIs bh bl b) (w : World) :
  Calls Tryz.prog 84 #[.agg #[.int .u64 ah, .int .u64 al], .agg #[.int .u64 bh, .int .u64 bl]] w fun e w' =>
   ∃ h l : Int, LimbIs h l ((a + b) % 340282366920938463463374607431768211456) ∧ e = .returned (.tuple #[.agg #[.int .u64 h, .int .u64 l], .bool (overB a b)]) ∧ Below w.heap.size w w' := by
 obtain ⟨k1, k2⟩ := add_is ha hb
 obtain ⟨a1, a2, a3, a4, -⟩ := ha
 obtain ⟨b1, b2, b3, b4, -⟩ := hb
 have c0 : 0 ≤ (al + bl) / 18446744073709551616 := by omega
 have c1 : (al + bl) / 18446744073709551616 ≤ 1 := by omega
 go_enter Tryz.func84, Tryz.ntmps84
 go_wp2_with (first | simp only [add64_0 al bl a3 b3] | simp only [add64 ah bh _ a1 b1 c0 c1])
 go_returns
 exact ⟨_, _, k1, rfl, by go_grown⟩

set_option maxHeartbeats 400000 in
theorem sub_any {ah al bh bl a b : Int} (ha : LimbIs ah al a) (hb : LimbIs bh bl b) (w : World) :
  Calls Tryz.prog 116 #[.agg #[.int .u64 ah, .int .u64 al], .agg #[.int .u64 bh, .int .u64 bl]] w fun e w' =>
   ∃ h l : Int, LimbIs h l ((a - b) % 340282366920938463463374607431768211456) ∧ e = .returned (.tuple #[.agg #[.int .u64 h, .int .u64 l], .bool (lessB a b)]) ∧ Below w.heap.size w w' := by
 obtain ⟨k1, k2⟩ := sub_is ha hb
 obtain ⟨a1, a2, a3, a4, -⟩ := ha
 obtain ⟨b1, b2, b3, b4, -⟩ := hb
 obtain ⟨c0, c1⟩ := bor_01 al bl
 go_enter Tryz.func116, Tryz.ntmps116
 go_wp2_with (first | simp only [sub64_0 al bl a3 b3 b4] | simp only [sub64 ah bh _ a1 b1 b2 c0 c1])
 go_returns
 exact ⟨_, _, k1, rfl, by go_grown⟩

set_option maxHeartbeats 400000 in
theorem cmp_any {ah al bh bl a b : Int} (ha : LimbIs ah al a) (hb : LimbIs bh bl b) (w : World) :
  Calls Tryz.prog 144 #[.agg #[.int .u64 ah, .int .u64 al], .agg #[.int .u64 bh, .int .u64 bl]] w fun e w' =>
   e = .returned (.int .i64 (cmpI a b)) ∧ Below w.heap.size w w' := by
 have qe := run_eql_limb
 by_cases hab : a = b
 ·subst hab
  have hq := eqL_same ha hb
  have hc : cmpI a a = 0 := by unfold cmpI; split <;> omega
  go_enter Tryz.func144, Tryz.ntmps144
  go_wp2
  go_returns
  exact ⟨by rw [hc]; rfl, by go_grown⟩
 ·have hq := eqL_other ha hb hab
  by_cases hl : a < b
  ·have hlb : lessB a b = true := by unfold lessB; simpa using hl
   have hc : cmpI a b = -1 := by unfold cmpI; rw [if_pos hl]
   go_enter Tryz.func144, Tryz.ntmps144
   go_wp2_with (go_at_call 116; refine (sub_any ha hb _).mono ?_; rintro e w' ⟨h, l, hd, rfl, hbl⟩)
   have hx := bthen (B := w.heap.size) (w := w) (by go_grown) (by go_size) hbl
   have hs := hx.size
   go_returns
   exact ⟨by rw [hc]; rfl, by go_grown⟩
  ·have hlb : lessB a b = false := by unfold lessB; simpa using hl
   have hc : cmpI a b = 1 := by unfold cmpI; rw [if_neg hl, if_pos (by omega)]
   go_enter Tryz.func144, Tryz.ntmps144
   go_wp2_with (go_at_call 116; refine (sub_any ha hb _).mono ?_; rintro e w' ⟨h, l, hd, rfl, hbl⟩)
   have hx := bthen (B := w.heap.size) (w := w) (by go_grown) (by go_size) hbl
   have hs := hx.size
   go_returns
   exact ⟨by rw [hc]; rfl, by go_grown⟩
end Go.Proofs.YthihioakjpmnbaaGreat

namespace Go.Proofs.YthihioakjpmnbaaGreat
open Go.RowKit

/-- The slice value v reads, in w, as the numbers zs. -/
def Digs (w : World) (v : Value) (zs : List Int) : Prop :=
 ∃ (ao : Option Addr) (b off cap : Nat), v = .slice ao zs.length cap ∧ zs.length ≤ cap ∧ cap ≤ maxLen ∧ (ao = none ∧ cap = 0 ∨ ao = some ⟨b, off, none⟩) ∧
  ∀ j, j < zs.length → w.cell? ⟨b, off + j, none⟩ = some (.int .i64 (dg zs j))
theorem some_of {ao : Option Addr} {b off cap : Nat} (h : ao = none ∧ cap = 0 ∨ ao = some ⟨b, off, none⟩) (hc : 0 < cap) : ao = some ⟨b, off, none⟩ := by
 rcases h with h | h
 ·omega
 ·exact h
theorem Digs.later {w w' : World} {v : Value} {zs : List Int} (h : Digs w v zs) (hb : Below w.heap.size w w') : Digs w' v zs := by
 obtain ⟨ao, b, off, cap, h1, h2, h3, h4, h5⟩ := h
 exact ⟨ao, b, off, cap, h1, h2, h3, h4, fun j hj => cell_later hb (h5 j hj)⟩

set_option maxRecDepth 100000 in
set_option maxHeartbeats 1000000 in
theorem trim_any {v : Value} {zs : List Int} {w : World} (h : Digs w v zs) (hl : zs.length ≤ 1000000000) :
  Calls Tryz.prog 55 #[v] w fun e w' =>
   ∃ (n : Nat) (v' : Value), n ≤ zs.length ∧ (∀ j, n ≤ j → j < zs.length → dg zs j = 0) ∧ (n = 0 ∨ dg zs (n - 1) ≠ 0) ∧ e = .returned v' ∧ Digs w v' (zs.take n) ∧ w' = w := by
 obtain ⟨ao, b, off, cap, rfl, h2, h3, h4, h5⟩ := h
 have hlen : (zs.length : Int) ≤ 1000000000 := by omega
 go_enter Tryz.func55, Tryz.ntmps55
 go_wp2
 go_loop [3] (fun t => ∃ n : Nat, n ≤ zs.length ∧ t = .int .i64 n ∧ Hid (∀ j, n ≤ j → j < zs.length → dg zs j = 0)) (fun t => (intOf t).toNat)
 case atStart => exact ⟨zs.length, Nat.le_refl _, rfl, fun j h1 h2 => by omega⟩
 case round =>
  obtain ⟨n, hn, rfl, hz⟩ := hrel
  have hcap : (zs.length : Int) ≤ cap := by omega
  by_cases h0 : n = 0
  ·subst h0
   go_wp2
   go_ret
   exact ⟨0, Nat.zero_le _, hz.out, .inl rfl, _, rfl, ⟨ao, b, off, cap, by simp, by simp, h3, h4, fun j hj => by simp at hj⟩, rfl⟩
  ·obtain ⟨m, rfl⟩ : ∃ m, n = m + 1 := ⟨n - 1, by omega⟩
   obtain rfl := some_of h4 (by omega)
   have hc := h5 m (by omega)
   have z1 : (0 : Int) ≤ (m : Int) + 1 - 1 := by omega
   have z2 : (m : Int) + 1 - 1 < zs.length := by omega
   have z3 : ((m : Int) + 1 - 1).toNat = m := by omega
   have H5 : Hid _ := h5
   clear h5
   by_cases hd : dg zs m = 0
   ·go_wp2
    go_round
    case rel => exact ⟨m, by omega, by go_num, fun j h1 h2 => by by_cases e : j = m; (subst e; exact hd); exact hz.out j (by omega) h2⟩
    case measure => simp [intOf]
   ·go_wp2
    go_ret
    exact ⟨m + 1, hn, hz.out, .inr (by simpa using hd), _, rfl, ⟨some ⟨b, off, none⟩, b, off, cap, by simp; omega, by simp; omega, h3, .inr rfl, fun j hj => by simp at hj; rw [dg_take (by omega)]; exact H5.out j (by omega)⟩, rfl⟩

set_option maxRecDepth 100000 in
set_option maxHeartbeats 1000000 in
theorem cmps_any {va vb : Value} {xs ys : List Int} {w : World} (ha : Digs w va xs) (hb : Digs w vb ys) (dx : Dig xs) (dy : Dig ys) (cx : Canon xs) (cy : Canon ys) (hl : xs.length ≤ 1000000000) (hl2 : ys.length ≤ 1000000000) :
  Calls Tryz.prog 49 #[va, vb] w fun e w' => e = .returned (.int .i64 (cmpI (val xs) (val ys))) ∧ Below w.heap.size w w' := by
 obtain ⟨ao, b, off, cap, rfl, h2, h3, h4, h5⟩ := ha
 obtain ⟨bo, b', off', cap', rfl, k2, k3, k4, k5⟩ := hb
 have hx : (xs.length : Int) ≤ 1000000000 := by omega
 have hy : (ys.length : Int) ≤ 1000000000 := by omega
 by_cases l1 : xs.length < ys.length
 ·have e1 := cmpI_lt (len_lt dx dy cy l1)
  have q1 : ((xs.length : Int) == (ys.length : Int)) = false := by simp; omega
  have q2 : (xs.length : Int) < ys.length := by omega
  go_enter Tryz.func49, Tryz.ntmps49
  go_wp2
  go_ret
  exact ⟨by first | rfl | (rw [e1]; rfl), Below.refl _ _⟩
 by_cases l2 : ys.length < xs.length
 ·have e1 := cmpI_gt (len_lt dy dx cx l2)
  have q1 : ((xs.length : Int) == (ys.length : Int)) = false := by simp; omega
  have q2 : ¬ (xs.length : Int) < ys.length := by omega
  go_enter Tryz.func49, Tryz.ntmps49
  go_wp2
  go_ret
  exact ⟨by first | rfl | (rw [e1]; rfl), Below.refl _ _⟩
 have he : xs.length = ys.length := by omega
 clear l1 l2
 have HE : Hid (xs.length = ys.length) := he
 rw [← he]
 go_enter Tryz.func49, Tryz.ntmps49
 clear he
 go_wp2
 go_loopw [5] (fun t wr => ∃ m : Nat, m ≤ xs.length ∧ t = .int .i64 ((m : Int) - 1) ∧ Hid (∀ j, m ≤ j → dg xs j = dg ys j) ∧ Below w.heap.size w wr) (fun t _ => (intOf t + 1).toNat)
 case atStart => exact ⟨xs.length, Nat.le_refl _, rfl, fun j h1 => by rw [dg_end h1, dg_end (by rw [← HE.out]; exact h1)], Below.refl _ _⟩
 case round =>
  obtain ⟨m, hm, rfl, hs, hbw⟩ := hrel
  by_cases h0 : m = 0
  ·subst h0
   have e1 : cmpI (val xs) (val ys) = 0 := cmpI_eq (by rw [digits_eq HE.out (fun j _ => hs.out j (Nat.zero_le _))])
   go_wp2
   go_ret
   exact ⟨by first | rfl | (rw [e1]; rfl), hbw⟩
  ·obtain ⟨k, rfl⟩ : ∃ m', m = m' + 1 := ⟨m - 1, by omega⟩
   obtain rfl := some_of h4 (by omega)
   obtain rfl := some_of k4 (by have := HE.out; omega)
   have c1 := cell_later hbw (h5 k (by omega))
   have c2 := cell_later hbw (k5 k (by have := HE.out; omega))
   have e : ((k + 1 : Nat) : Int) - 1 = (k : Int) := by omega
   rw [e]
   have z1 : (k : Int) < xs.length := by omega
   have z2 : (0 : Int) ≤ (k : Int) := by omega
   have H5 : Hid _ := h5
   have K5 : Hid _ := k5
   clear h5 k5 e
   by_cases g1 : dg xs k < dg ys k
   ·have e1 := cmpI_lt (digit_lt dx dy HE.out (i := k) (by omega) (fun j hj => hs.out j hj) g1)
    go_wp2
    go_quiet (fail)
    go_wp2
    go_ret
    exact ⟨by first | rfl | (rw [e1]; rfl), below_drewN hbw _⟩
   by_cases g2 : dg ys k < dg xs k
   ·have e1 := cmpI_gt (digit_lt dy dx HE.out.symm (i := k) (by have := HE.out; omega) (fun j hj => (hs.out j hj).symm) g2)
    have g3 : decide (dg xs k < dg ys k) = false := by simpa using g1
    go_wp2
    go_quiet (fail)
    go_wp2
    go_quiet (fail)
    go_wp2
    go_ret
    exact ⟨by first | rfl | (rw [e1]; rfl), below_drewN (below_drewN hbw _) _⟩
   ·have g3 : decide (dg xs k < dg ys k) = false := by simpa using g1
    have g4 : decide (dg ys k < dg xs k) = false := by simpa using g2
    go_wp2
    go_quiet (fail)
    go_wp2
    go_quiet (fail)
    go_wp2
    go_roundw
    case rel => exact ⟨k, by omega, rfl, fun j hj => by by_cases e : j = k; (subst e; omega); exact hs.out j (by omega), below_drewN hbw _⟩
    case measure => simp [intOf]

/-- No number. -/
def NoInt (u : Value) : Prop := ∀ n, u ≠ .int .i64 n
theorem noInt_bool (b : Bool) : NoInt (.bool b) := fun n h => by cases h
theorem noInt_slice (a : Option Addr) (l c : Nat) : NoInt (.slice a l c) := fun n h => by cases h
theorem Digs.form {w : World} {v : Value} {zs : List Int} (h : Digs w v zs) : ∃ a c, v = .slice a zs.length c := by
 obtain ⟨ao, b, off, cap, rfl, _⟩ := h
 exact ⟨_, _, rfl⟩
/-- A store into a cell that holds no number leaves all digits as they are. -/
theorem Digs.store {w : World} {v : Value} {zs : List Int} (h : Digs w v zs) {a : Addr} {u : Value} (hu : w.cell? a = some u) (hn : NoInt u) (x : Value) : Digs (w.setCell a x) v zs := by
 obtain ⟨ao, b, off, cap, h1, h2, h3, h4, h5⟩ := h
 refine ⟨ao, b, off, cap, h1, h2, h3, h4, fun j hj => ?_⟩
 rw [World.cell?_setCell_other]
 ·exact h5 j hj
 ·intro e
  rw [e, h5 j hj] at hu
  exact hn _ (by injection hu with hu; exact hu.symm)

/-- trim, in a world that is a letter behind the call. -/
theorem trim_b {v : Value} {zs : List Int} {w : World} (h : Digs w v zs) (hl : zs.length ≤ 1000000000) :
  Calls Tryz.prog 55 #[v] w fun e w' =>
   ∃ (n : Nat) (v' : Value), n ≤ zs.length ∧ (∀ j, n ≤ j → j < zs.length → dg zs j = 0) ∧ (n = 0 ∨ dg zs (n - 1) ≠ 0) ∧ e = .returned v' ∧ Digs w' v' (zs.take n) ∧ Below w.heap.size w w' := by
 refine (trim_any h hl).mono ?_
 rintro e w' ⟨n, v', h1, h2, h3, h4, h5, rfl⟩
 exact ⟨n, v', h1, h2, h3, h4, h5, Below.refl _ _⟩
end Go.Proofs.YthihioakjpmnbaaGreat
