/-
  The contracts of math/bits.Mul64 (as the program's own text reckons it), limb.mulAdd and limb.Mul: the product of two numbers, as two Limbs (P1.2). No conditions.
-/
import Derived.Test.YtlpenfganhaclaaLimbA
import Derived.Shelf.Bits.Mul64
import Derived.Deep.RegionHeld3
import Derived.BigQuiet
import Derived.Deep.DrawnRows
namespace Go.Proofs.Ytlpenfganhaclaa
open Go.RowKit Go.Lib

set_option maxHeartbeats 1000000 in
theorem mul64_nat (x y : Nat) (hx : x < 18446744073709551616) (hy : y < 18446744073709551616) (w : World) :
    Calls Try.prog 80 #[.int .u64 x, .int .u64 y] w fun e w' => e = .returned (.tuple #[.int .u64 ((x * y / 18446744073709551616 : Nat) : Int), .int .u64 ((x * y % 18446744073709551616 : Nat) : Int)]) ∧ w' = w := by
  obtain ⟨bd, bt, bw, hhi⟩ := Lib.mul64_hi x y hx hy
  have ba := Lib.half_mul_le (a := x / 4294967296) (b := y / 4294967296) (by omega) (by omega)
  have bb := Lib.half_mul_le (a := x / 4294967296) (b := y % 4294967296) (by omega) (by omega)
  have bc := Lib.half_mul_le (a := x % 4294967296) (b := y / 4294967296) (by omega) (by omega)
  have ba' : x / 4294967296 * (y / 4294967296) < 18446744073709551616 := by omega
  have bb' : x / 4294967296 * (y % 4294967296) < 18446744073709551616 := by omega
  have bc' : x % 4294967296 * (y / 4294967296) < 18446744073709551616 := by omega
  have bh1 : x / 4294967296 * (y / 4294967296) + (x / 4294967296 * (y % 4294967296) + x % 4294967296 * (y % 4294967296) / 4294967296) / 4294967296 < 18446744073709551616 := by omega
  have bh : x / 4294967296 * (y / 4294967296) + (x / 4294967296 * (y % 4294967296) + x % 4294967296 * (y % 4294967296) / 4294967296) / 4294967296 + ((x / 4294967296 * (y % 4294967296) + x % 4294967296 * (y % 4294967296) / 4294967296) % 4294967296 + x % 4294967296 * (y / 4294967296)) / 4294967296 < 18446744073709551616 := by omega
  go_enter Try.func80, Try.ntmps80
  go_wp2
  simp only [Mul64.maskN x hx, Mul64.maskN y hy, Mul64.divN, Mul64.mulN, Mul64.addN, Mul64.wrapN _ bd, Mul64.wrapN _ bb', Mul64.wrapN _ bt, Mul64.maskN _ bt, Mul64.wrapN _ bc', Mul64.wrapN _ bw, Mul64.wrapN _ ba', Mul64.wrapN _ bh1, Mul64.wrapN _ bh, Mul64.wrapM (x * y)]
  rw [hhi]
  go_ret2
  exact ⟨rfl, rfl⟩
theorem mul64_any (x y p : Int) (hp : Hid (p = x * y)) (x0 : 0 ≤ x) (x1 : x < 18446744073709551616) (y0 : 0 ≤ y) (y1 : y < 18446744073709551616) (w : World) :
    Calls Try.prog 80 #[.int .u64 x, .int .u64 y] w fun e w' => e = .returned (.tuple #[.int .u64 (p / 18446744073709551616), .int .u64 (p % 18446744073709551616)]) ∧ w' = w := by
  obtain ⟨x, rfl⟩ := Int.eq_ofNat_of_zero_le x0
  obtain ⟨y, rfl⟩ := Int.eq_ofNat_of_zero_le y0
  have hp' : p = ((x * y : Nat) : Int) := by rw [hp.out, Int.natCast_mul]
  refine (mul64_nat x y (by omega) (by omega) w).mono ?_
  rintro e w' ⟨rfl, rfl⟩
  refine ⟨?_, rfl⟩
  rw [hp']
  congr 4
theorem prod_le {x y : Int} (x0 : 0 ≤ x) (x1 : x < 18446744073709551616) (y0 : 0 ≤ y) (y1 : y < 18446744073709551616) : 0 ≤ x * y ∧ x * y ≤ 340282366920938463426481119284349108225 := by
  refine ⟨Int.mul_nonneg x0 y0, ?_⟩
  have := Int.mul_le_mul (show x ≤ 18446744073709551615 by omega) (show y ≤ 18446744073709551615 by omega) y0 (by omega)
  omega

set_option maxHeartbeats 400000 in
theorem mulAdd_any (x y u c p : Int) (hp : Hid (p = x * y)) (x0 : 0 ≤ x) (x1 : x < 18446744073709551616) (y0 : 0 ≤ y) (y1 : y < 18446744073709551616)
    (u0 : 0 ≤ u) (u1 : u < 18446744073709551616) (c0 : 0 ≤ c) (c1 : c < 18446744073709551616) (w : World) :
    Calls Try.prog 74 #[.int .u64 x, .int .u64 y, .int .u64 u, .int .u64 c] w fun e w' =>
      e = .returned (.tuple #[.int .u64 ((p + u + c) % 18446744073709551616), .int .u64 ((p + u + c) / 18446744073709551616)]) ∧ w' = w := by
  obtain ⟨b0, b1⟩ := prod_le x0 x1 y0 y1
  rw [← hp.out] at b0 b1
  have k0 : 0 ≤ p % 18446744073709551616 := by omega
  have k1 : 0 ≤ (p + u) % 18446744073709551616 := by omega
  go_enter Try.func74, Try.ntmps74
  go_wp2_with (first | (go_at_call 80; refine (mul64_any x y p hp x0 x1 y0 y1 _).mono ?_; rintro e w' ⟨rfl, rfl⟩) | simp only [add64_0 _ u k0 u0] | simp only [add64_0 _ c k1 c0])
  have e1 : p / 18446744073709551616 + (p % 18446744073709551616 + u) / 18446744073709551616 + ((p + u) % 18446744073709551616 + c) / 18446744073709551616 = (p + u + c) / 18446744073709551616 := by omega
  rw [e1]
  go_ret2
  exact ⟨rfl, rfl⟩

/-! ### The school method: the words and the carry when row i has come to column j -/
section School
variable (p q r s : Int)
def w0a : Int := p % 18446744073709551616
def ca : Int := p / 18446744073709551616
def w1a : Int := (q + ca p) % 18446744073709551616
def cb : Int := (q + ca p) / 18446744073709551616
def w1b : Int := (r + w1a p q) % 18446744073709551616
def cc : Int := (r + w1a p q) / 18446744073709551616
def w2b : Int := (s + cb p q + cc p q r) % 18446744073709551616
def cd : Int := (s + cb p q + cc p q r) / 18446744073709551616
/-- Word k. -/
def Wd : Nat → Nat → Nat → Int
  | 0, 0, _ => 0
  | 0, 1, 0 => w0a p
  | 0, 1, _ => 0
  | 0, _, 0 => w0a p
  | 0, _, 1 => w1a p q
  | 0, _, _ => 0
  | 1, 0, 0 => w0a p
  | 1, 0, 1 => w1a p q
  | 1, 0, 2 => cb p q
  | 1, 0, _ => 0
  | 1, 1, 0 => w0a p
  | 1, 1, 1 => w1b p q r
  | 1, 1, 2 => cb p q
  | 1, 1, _ => 0
  | 1, _, 0 => w0a p
  | 1, _, 1 => w1b p q r
  | 1, _, 2 => w2b p q r s
  | 1, _, _ => 0
  | _, _, 0 => w0a p
  | _, _, 1 => w1b p q r
  | _, _, 2 => w2b p q r s
  | _, _, _ => cd p q r s
/-- The carry. -/
def Cr : Nat → Nat → Int
  | 0, 0 => 0
  | 0, 1 => ca p
  | 0, _ => cb p q
  | 1, 0 => 0
  | 1, 1 => cc p q r
  | _, _ => cd p q r s
/-- The product of row i and column j. -/
def Pr : Nat → Nat → Int
  | 0, 0 => p
  | 0, _ => q
  | _, 0 => r
  | _, _ => s
end School
def pick2 (a b : Int) : Nat → Int
  | 0 => a
  | _ => b
theorem lt2 {i : Nat} (h : i < 2) : i = 0 ∨ i = 1 := by omega
/-- The products' bounds. -/
def Small (p : Int) : Prop := 0 ≤ p ∧ p ≤ 340282366920938463426481119284349108225
theorem words_ok {p q r s : Int} (hp : Small p) (hq : Small q) (hr : Small r) (hs : Small s) : (∀ i j k, 0 ≤ Wd p q r s i j k ∧ Wd p q r s i j k < 18446744073709551616) ∧ (∀ i j, 0 ≤ Cr p q r s i j ∧ Cr p q r s i j < 18446744073709551616) := by
  obtain ⟨_, _⟩ := hp; obtain ⟨_, _⟩ := hq; obtain ⟨_, _⟩ := hr; obtain ⟨_, _⟩ := hs
  have k1 : 0 ≤ ca p ∧ ca p < 18446744073709551615 := by unfold ca; omega
  have k2 : 0 ≤ cb p q ∧ cb p q < 18446744073709551616 := by unfold cb; omega
  have k3 : 0 ≤ w1a p q ∧ w1a p q < 18446744073709551616 := by unfold w1a; omega
  have k4 : 0 ≤ cc p q r ∧ cc p q r < 18446744073709551616 := by unfold cc; omega
  have k5 : 0 ≤ cd p q r s ∧ cd p q r s < 18446744073709551616 := by unfold cd; omega
  have k6 : 0 ≤ w1b p q r ∧ w1b p q r < 18446744073709551616 := by unfold w1b; omega
  have k7 : 0 ≤ w2b p q r s ∧ w2b p q r s < 18446744073709551616 := by unfold w2b; omega
  have k8 : 0 ≤ w0a p ∧ w0a p < 18446744073709551616 := by unfold w0a; omega
  constructor
  · intro i j k
    unfold Wd
    split <;> first | assumption | decide
  · intro i j
    unfold Cr
    split <;> first | assumption | decide | (exact ⟨k1.1, by omega⟩)
theorem lt4 {i : Nat} (h : i < 4) : i = 0 ∨ i = 1 ∨ i = 2 ∨ i = 3 := by omega
theorem step_col1 (p q r s : Int) {i j : Nat} (hi : i < 2) (hj : j < 2) :
    Wd p q r s i (j + 1) (i + j) = (Pr p q r s i j + Wd p q r s i j (i + j) + Cr p q r s i j) % 18446744073709551616 := by
  rcases lt2 hi with rfl | rfl <;> rcases lt2 hj with rfl | rfl
  · show p % 18446744073709551616 = (p + 0 + 0) % 18446744073709551616; rw [Int.add_zero, Int.add_zero]
  · show (q + ca p) % 18446744073709551616 = (q + 0 + ca p) % 18446744073709551616; rw [Int.add_zero]
  · show (r + w1a p q) % 18446744073709551616 = (r + w1a p q + 0) % 18446744073709551616; rw [Int.add_zero]
  · rfl
theorem step_col2 (p q r s : Int) {i j : Nat} (hi : i < 2) (hj : j < 2) :
    Cr p q r s i (j + 1) = (Pr p q r s i j + Wd p q r s i j (i + j) + Cr p q r s i j) / 18446744073709551616 := by
  rcases lt2 hi with rfl | rfl <;> rcases lt2 hj with rfl | rfl
  · show p / 18446744073709551616 = (p + 0 + 0) / 18446744073709551616; rw [Int.add_zero, Int.add_zero]
  · show (q + ca p) / 18446744073709551616 = (q + 0 + ca p) / 18446744073709551616; rw [Int.add_zero]
  · show (r + w1a p q) / 18446744073709551616 = (r + w1a p q + 0) / 18446744073709551616; rw [Int.add_zero]
  · rfl
theorem step_col3 (p q r s : Int) {i j k : Nat} (hi : i < 2) (hj : j < 2) (hk : k < 4) (hn : k ≠ i + j) : Wd p q r s i (j + 1) k = Wd p q r s i j k := by
  rcases lt2 hi with rfl | rfl <;> rcases lt2 hj with rfl | rfl <;> rcases lt4 hk with rfl | rfl | rfl | rfl <;> first | rfl | (exact absurd rfl hn)
theorem step_row1 (p q r s : Int) {i : Nat} (hi : i < 2) : Wd p q r s (i + 1) 0 (i + 2) = Cr p q r s i 2 := by
  rcases lt2 hi with rfl | rfl <;> rfl
theorem step_row2 (p q r s : Int) {i k : Nat} (hi : i < 2) (hk : k < 4) (hn : k ≠ i + 2) : Wd p q r s (i + 1) 0 k = Wd p q r s i 2 k := by
  rcases lt2 hi with rfl | rfl <;> rcases lt4 hk with rfl | rfl | rfl | rfl <;> first | rfl | (exact absurd rfl hn)
theorem Cr_0 (p q r s : Int) {i : Nat} (hi : i < 2) : Cr p q r s i 0 = 0 := by rcases lt2 hi with rfl | rfl <;> rfl
/-- The whole product. -/
theorem words_done {ah al bh bl a b p q r s : Int} (ha : LimbIs ah al a) (hb : LimbIs bh bl b) (hp : p = al * bl) (hq : q = al * bh) (hr : r = ah * bl) (hs : s = ah * bh) :
    LimbIs (Wd p q r s 2 0 3) (Wd p q r s 2 0 2) (a * b / 340282366920938463463374607431768211456) ∧ LimbIs (Wd p q r s 2 0 1) (Wd p q r s 2 0 0) (a * b % 340282366920938463463374607431768211456) := by
  obtain ⟨a1, a2, a3, a4, rfl⟩ := ha
  obtain ⟨b1, b2, b3, b4, rfl⟩ := hb
  have hp' := prod_le a3 a4 b3 b4
  have hq' := prod_le a3 a4 b1 b2
  have hr' := prod_le a1 a2 b3 b4
  have hs' := prod_le a1 a2 b1 b2
  have e : (ah * 18446744073709551616 + al) * (bh * 18446744073709551616 + bl) = s * 340282366920938463463374607431768211456 + r * 18446744073709551616 + q * 18446744073709551616 + p := by
    rw [Int.add_mul, Int.mul_add, Int.mul_add, hp, hq, hr, hs]
    rw [show ah * 18446744073709551616 * (bh * 18446744073709551616) = ah * bh * 340282366920938463463374607431768211456 by rw [Int.mul_assoc, Int.mul_left_comm 18446744073709551616, ← Int.mul_assoc]; rfl]
    rw [show ah * 18446744073709551616 * bl = ah * bl * 18446744073709551616 by rw [Int.mul_right_comm]]
    rw [show al * (bh * 18446744073709551616) = al * bh * 18446744073709551616 by rw [Int.mul_assoc]]
    omega
  rw [← hp] at hp'; rw [← hq] at hq'; rw [← hr] at hr'; rw [← hs] at hs'
  rw [e]
  clear e hp hq hr hs
  simp only [Wd]
  obtain ⟨k1, k2⟩ := words_ok (p := p) (q := q) (r := r) (s := s) hp' hq' hr' hs'
  have t1 := k1 2 0 3; have t2 := k1 2 0 2; have t3 := k1 2 0 1; have t4 := k1 2 0 0
  simp only [Wd] at t1 t2 t3 t4
  have z : s * 340282366920938463463374607431768211456 + r * 18446744073709551616 + q * 18446744073709551616 + p = ((cd p q r s) * 18446744073709551616 + w2b p q r s) * 340282366920938463463374607431768211456 + (w1b p q r * 18446744073709551616 + w0a p) := by
    clear t1 t2 t3 t4 k1 k2
    unfold cd w2b cc w1b w0a cb
    unfold w1a ca
    omega
  rw [z]
  refine ⟨⟨t1.1, t1.2, t2.1, t2.2, ?_⟩, ⟨t3.1, t3.2, t4.1, t4.2, ?_⟩⟩
  · omega
  · omega
end Go.Proofs.Ytlpenfganhaclaa
