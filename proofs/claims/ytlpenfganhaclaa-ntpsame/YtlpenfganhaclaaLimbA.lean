/-
  The contracts of limb.Add, limb.Sub and limb.Cmp: each returns what P1.1 says of the numbers that the two words stand for; nothing that was there before the call turns. No conditions.
-/
import Derived.Test.YtlpenfganhaclaaRows
import Derived.Test.YtlpenfganhaclaaRefM
import Derived.WalkKit
import Derived.WalkSpells
import Derived.WalkLawsBesides
import Derived.Handy
namespace Go.Proofs.Ytlpenfganhaclaa
open Go.RowKit

/-! ### Numbers of two words -/
/-- h and l are words, and the number z is h times 2^64, and l. -/
def LimbIs (h l z : Int) : Prop := 0 ≤ h ∧ h < 18446744073709551616 ∧ 0 ≤ l ∧ l < 18446744073709551616 ∧ z = h * 18446744073709551616 + l
theorem LimbIs.range {h l z : Int} (k : LimbIs h l z) : 0 ≤ z ∧ z < 340282366920938463463374607431768211456 := by
  obtain ⟨_, _, _, _, _⟩ := k; omega
theorem LimbIs.same {h l h' l' z : Int} (k : LimbIs h l z) (k' : LimbIs h' l' z) : h = h' ∧ l = l' := by
  obtain ⟨_, _, _, _, _⟩ := k; obtain ⟨_, _, _, _, _⟩ := k'; omega
theorem LimbIs.other {h l h' l' z z' : Int} (k : LimbIs h l z) (k' : LimbIs h' l' z') (n : z ≠ z') : ¬ (h = h' ∧ l = l') := by
  obtain ⟨_, _, _, _, _⟩ := k; obtain ⟨_, _, _, _, _⟩ := k'; omega
theorem LimbIs.mk' {h l : Int} (h0 : 0 ≤ h) (h1 : h < 18446744073709551616) (l0 : 0 ≤ l) (l1 : l < 18446744073709551616) : LimbIs h l (h * 18446744073709551616 + l) := ⟨h0, h1, l0, l1, rfl⟩
/-- A carry, as the bool that the program tells. -/
def overB (a b : Int) : Bool := decide (340282366920938463463374607431768211456 ≤ a + b)
def lessB (a b : Int) : Bool := decide (a < b)

/-! ### Worlds -/
theorem bthen {B : Nat} {w w1 w2 : World} (h : Below B w w1) (hB : B ≤ w1.heap.size) (k : Below w1.heap.size w1 w2) : Below B w w2 := h.trans (k.mono hB)
theorem bcell {W w1 : World} (hb : Below W.heap.size W w1) : (∀ b o, b < W.heap.size → w1.cell? ⟨b, o, none⟩ = W.cell? ⟨b, o, none⟩) ∧ (∀ b o, b < W.heap.size → w1.frozen? ⟨b, o, none⟩ = W.frozen? ⟨b, o, none⟩) :=
  ⟨fun b o h => hb.cell (p := ⟨b, o, none⟩) h, fun b o h => hb.frozen (p := ⟨b, o, none⟩) h⟩

theorem isSome_setCell (w : World) (a : Addr) (v : Value) (b : Addr) : ((w.setCell a v).cell? b).isSome = (w.cell? b).isSome := by
  by_cases h : a = b
  · subst h
    by_cases hs : (w.cell? a).isSome = true
    · rw [World.cell?_setCell_same' _ _ _ hs]; simp [hs]
    · simp only [World.setCell, World.cell?, Array.getElem?_modify] at hs ⊢
      cases hh : w.heap[a.block]? with
      | none => simp
      | some x =>
        cases x <;> simp_all
        cases hsp : a.spot.isSome
        · simp only [Bool.false_eq_true, if_false]
          rw [Bool.eq_iff_iff]; simp
        · simp
  · rw [World.cell?_setCell_other _ _ _ _ h]

/-- A variable of two cells is still there, as it was, behind a call. -/
def Two (w : World) (b : Nat) (u v : Value) : Prop := w.cell? ⟨b, 0, none⟩ = some u ∧ w.cell? ⟨b, 1, none⟩ = some v ∧ w.frozen? ⟨b, 0, none⟩ = false ∧ w.frozen? ⟨b, 1, none⟩ = false
theorem two_later {W w1 : World} (hb : Below W.heap.size W w1) {b : Nat} {u v : Value} (h : Two W b u v) : Two w1 b u v ∧ b < w1.heap.size := by
  obtain ⟨h0, h1, f0, f1⟩ := h
  have k : b < W.heap.size := World.block_lt_of_cell? _ _ h0
  exact ⟨⟨cell_later hb h0, cell_later hb h1, (hb.frozen (p := ⟨b, 0, none⟩) k).trans f0, (hb.frozen (p := ⟨b, 1, none⟩) k).trans f1⟩, Nat.lt_of_lt_of_le k hb.size⟩

/-! ### The two intrinsics, over Int -/
theorem add64 (x y c : Int) (hx : 0 ≤ x) (hy : 0 ≤ y) (hc0 : 0 ≤ c) (hc : c ≤ 1) (w : World) : (callFunc 79 #[.int .u64 x, .int .u64 y, .int .u64 c]).run Try.prog w =
    .ok (.value (.tuple #[.int .u64 ((x + y + c) % 18446744073709551616), .int .u64 ((x + y + c) / 18446744073709551616)])) w := by
  rw [run_callFunc_extern Try.func79 (by kernel_rfl) (by kernel_rfl) (by kernel_rfl) (e := add64Entry) (by kernel_rfl), run_add64 x y c hx hy hc0 hc]
  rfl
theorem add64_0 (x y : Int) (hx : 0 ≤ x) (hy : 0 ≤ y) (w : World) : (callFunc 79 #[.int .u64 x, .int .u64 y, .int .u64 0]).run Try.prog w =
    .ok (.value (.tuple #[.int .u64 ((x + y) % 18446744073709551616), .int .u64 ((x + y) / 18446744073709551616)])) w := by
  simpa using add64 x y 0 hx hy (Int.le_refl 0) (by decide) w
/-- The borrow under a name. -/
def bor (x y : Int) : Int := if x < y then 1 else 0
theorem bor_01 (x y : Int) : 0 ≤ bor x y ∧ bor x y ≤ 1 := by unfold bor; split <;> decide
def subEntry : Array Value → Sem Value := (Extern.MathBitsCarry.rows.getD 1 ("", fun _ => stuck "")).2
theorem sub64 (x y b : Int) (hx : 0 ≤ x) (hy : 0 ≤ y) (hy' : y < 18446744073709551616) (hb0 : 0 ≤ b) (hb : b ≤ 1) (w : World) : (callFunc 81 #[.int .u64 x, .int .u64 y, .int .u64 b]).run Try.prog w =
    .ok (.value (.tuple #[.int .u64 ((x - y - b) % 18446744073709551616), .int .u64 (bor x (y + b))])) w := by
  obtain ⟨x, rfl⟩ := Int.eq_ofNat_of_zero_le hx
  obtain ⟨y, rfl⟩ := Int.eq_ofNat_of_zero_le hy
  obtain ⟨b, rfl⟩ := Int.eq_ofNat_of_zero_le hb0
  rw [run_callFunc_extern Try.func81 (by kernel_rfl) (by kernel_rfl) (by kernel_rfl) (e := subEntry) (by kernel_rfl)]
  have key : (subEntry #[.int .u64 x, .int .u64 y, .int .u64 b]).run Try.prog w = .ok (.tuple #[.int .u64 (((x + 18446744073709551616 - y - b) % 18446744073709551616 : Nat) : Int), .int .u64 ((if x < y + b then 1 else 0 : Nat) : Int)]) w := by
    have : b = 0 ∨ b = 1 := by omega
    rcases this with rfl | rfl <;> rfl
  have e1 : (((x + 18446744073709551616 - y - b) % 18446744073709551616 : Nat) : Int) = ((x : Int) - y - b) % 18446744073709551616 := by omega
  have e2 : ((if x < y + b then 1 else 0 : Nat) : Int) = bor (x : Int) (y + b) := by unfold bor; split <;> split <;> omega
  rw [key, e1, e2]
  rfl
theorem sub64_0 (x y : Int) (hx : 0 ≤ x) (hy : 0 ≤ y) (hy' : y < 18446744073709551616) (w : World) : (callFunc 81 #[.int .u64 x, .int .u64 y, .int .u64 0]).run Try.prog w =
    .ok (.value (.tuple #[.int .u64 ((x - y) % 18446744073709551616), .int .u64 (bor x y)])) w := by
  simpa using sub64 x y 0 hx hy hy' (Int.le_refl 0) (by decide) w

/-! ### '==' of two Limbs -/
def eqL (a b c d : Int) : Bool := (a == c) && (b == d)
theorem run_eql_limb (a b c d : Int) (w : World) : (binOp .eql 85 (.agg #[.int .u64 a, .int .u64 b]) (.agg #[.int .u64 c, .int .u64 d])).run Try.prog w = .ok (.bool (eqL a b c d)) w := by
  unfold eqL
  by_cases h1 : a = c <;> by_cases h2 : b = d <;> simp [go_sem, h1, h2]
theorem eqL_same {a b c d z : Int} (h : LimbIs a b z) (k : LimbIs c d z) : eqL a b c d = true := by
  obtain ⟨rfl, rfl⟩ := h.same k; simp [eqL]
theorem eqL_other {a b c d z y : Int} (h : LimbIs a b z) (k : LimbIs c d y) (n : z ≠ y) : eqL a b c d = false := by
  have := h.other k n
  unfold eqL
  by_cases h1 : a = c <;> by_cases h2 : b = d <;> simp_all

/-! ### limb.Add, limb.Sub, limb.Cmp -/
theorem add_is {ah al bh bl a b : Int} (ha : LimbIs ah al a) (hb : LimbIs bh bl b) :
    LimbIs ((ah + bh + (al + bl) / 18446744073709551616) % 18446744073709551616) ((al + bl) % 18446744073709551616) ((a + b) % 340282366920938463463374607431768211456) ∧
    ((ah + bh + (al + bl) / 18446744073709551616) / 18446744073709551616 == 1) = overB a b := by
  obtain ⟨_, _, _, _, _⟩ := ha; obtain ⟨_, _, _, _, _⟩ := hb
  refine ⟨⟨by omega, by omega, by omega, by omega, by omega⟩, ?_⟩
  unfold overB; rw [Bool.eq_iff_iff]; simp only [beq_iff_eq, decide_eq_true_eq]; omega
theorem sub_is {ah al bh bl a b : Int} (ha : LimbIs ah al a) (hb : LimbIs bh bl b) :
    LimbIs ((ah - bh - bor al bl) % 18446744073709551616) ((al - bl) % 18446744073709551616) ((a - b) % 340282366920938463463374607431768211456) ∧
    (bor ah (bh + bor al bl) == 1) = lessB a b := by
  obtain ⟨_, _, _, _, _⟩ := ha; obtain ⟨_, _, _, _, _⟩ := hb
  unfold bor
  refine ⟨⟨by omega, by omega, by omega, by omega, by split <;> omega⟩, ?_⟩
  unfold lessB; rw [Bool.eq_iff_iff]; simp only [beq_iff_eq, decide_eq_true_eq]; split <;> split <;> omega

set_option maxHeartbeats 400000 in
theorem add_any {ah al bh bl a b : Int} (ha : LimbIs ah al a) (hb : LimbIs bh bl b) (w : World) :
    Calls Try.prog 72 #[.agg #[.int .u64 ah, .int .u64 al], .agg #[.int .u64 bh, .int .u64 bl]] w fun e w' =>
      ∃ h l : Int, LimbIs h l ((a + b) % 340282366920938463463374607431768211456) ∧ e = .returned (.tuple #[.agg #[.int .u64 h, .int .u64 l], .bool (overB a b)]) ∧ Below w.heap.size w w' := by
  obtain ⟨k1, k2⟩ := add_is ha hb
  obtain ⟨a1, a2, a3, a4, -⟩ := ha
  obtain ⟨b1, b2, b3, b4, -⟩ := hb
  have c0 : 0 ≤ (al + bl) / 18446744073709551616 := by omega
  have c1 : (al + bl) / 18446744073709551616 ≤ 1 := by omega
  go_enter Try.func72, Try.ntmps72
  go_wp2_with (first | simp only [add64_0 al bl a3 b3] | simp only [add64 ah bh _ a1 b1 c0 c1])
  go_returns
  exact ⟨_, _, k1, rfl, by go_grown⟩

set_option maxHeartbeats 400000 in
theorem sub_any {ah al bh bl a b : Int} (ha : LimbIs ah al a) (hb : LimbIs bh bl b) (w : World) :
    Calls Try.prog 75 #[.agg #[.int .u64 ah, .int .u64 al], .agg #[.int .u64 bh, .int .u64 bl]] w fun e w' =>
      ∃ h l : Int, LimbIs h l ((a - b) % 340282366920938463463374607431768211456) ∧ e = .returned (.tuple #[.agg #[.int .u64 h, .int .u64 l], .bool (lessB a b)]) ∧ Below w.heap.size w w' := by
  obtain ⟨k1, k2⟩ := sub_is ha hb
  obtain ⟨a1, a2, a3, a4, -⟩ := ha
  obtain ⟨b1, b2, b3, b4, -⟩ := hb
  obtain ⟨c0, c1⟩ := bor_01 al bl
  go_enter Try.func75, Try.ntmps75
  go_wp2_with (first | simp only [sub64_0 al bl a3 b3 b4] | simp only [sub64 ah bh _ a1 b1 b2 c0 c1])
  go_returns
  exact ⟨_, _, k1, rfl, by go_grown⟩

set_option maxHeartbeats 400000 in
theorem cmp_any {ah al bh bl a b : Int} (ha : LimbIs ah al a) (hb : LimbIs bh bl b) (w : World) :
    Calls Try.prog 76 #[.agg #[.int .u64 ah, .int .u64 al], .agg #[.int .u64 bh, .int .u64 bl]] w fun e w' =>
      e = .returned (.int .i64 (cmpI a b)) ∧ Below w.heap.size w w' := by
  have qe := run_eql_limb
  by_cases hab : a = b
  · subst hab
    have hq := eqL_same ha hb
    have hc : cmpI a a = 0 := by unfold cmpI; split <;> omega
    go_enter Try.func76, Try.ntmps76
    go_wp2
    go_returns
    exact ⟨by rw [hc]; rfl, by go_grown⟩
  · have hq := eqL_other ha hb hab
    by_cases hl : a < b
    · have hlb : lessB a b = true := by unfold lessB; simpa using hl
      have hc : cmpI a b = -1 := by unfold cmpI; rw [if_pos hl]
      go_enter Try.func76, Try.ntmps76
      go_wp2_with (go_at_call 75; refine (sub_any ha hb _).mono ?_; rintro e w' ⟨h, l, hd, rfl, hbl⟩)
      have hx := bthen (B := w.heap.size) (w := w) (by go_grown) (by go_size) hbl
      have hs := hx.size
      go_returns
      exact ⟨by rw [hc]; rfl, by go_grown⟩
    · have hlb : lessB a b = false := by unfold lessB; simpa using hl
      have hc : cmpI a b = 1 := by unfold cmpI; rw [if_neg hl, if_pos (by omega)]
      go_enter Try.func76, Try.ntmps76
      go_wp2_with (go_at_call 75; refine (sub_any ha hb _).mono ?_; rintro e w' ⟨h, l, hd, rfl, hbl⟩)
      have hx := bthen (B := w.heap.size) (w := w) (by go_grown) (by go_size) hbl
      have hs := hx.size
      go_returns
      exact ⟨by rw [hc]; rfl, by go_grown⟩
end Go.Proofs.Ytlpenfganhaclaa
