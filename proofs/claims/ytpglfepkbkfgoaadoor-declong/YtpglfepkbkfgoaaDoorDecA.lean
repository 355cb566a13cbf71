/-
  Whole numbers and their decimal texts, as lists of bytes: what a text is the number of, what text a number has, and that the one undoes the other. No program is spoken of; no conditions.
-/
import Derived.Test.YtpglfepkbkfgoaaDoorNumA
import Derived.Test.YtpglfepkbkfgoaaDoorVcW
namespace Go.Proofs.YtpglfepkbkfgoaaDoor
open Go.RowKit
set_option maxRecDepth 100000

/-- Is a byte a decimal digit? -/
def isDig (b : UInt8) : Bool := decide (48 ≤ b.toNat) && decide (b.toNat ≤ 57)
theorem isDig_iff {b : UInt8} : isDig b = true ↔ 48 ≤ b.toNat ∧ b.toNat ≤ 57 := by simp [isDig]
/-- The number of digits, the first one first. -/
def numD : List UInt8 → Int → Int
  | [], a => a
  | b :: r, a => numD r (a * 10 + (b.toNat - 48))
/-- A text without its sign. -/
def bodyL (l : List UInt8) : List UInt8 := if l.head? = some 45 then l.drop 1 else l
def minusL (l : List UInt8) : Bool := decide (l.head? = some 45)
/-- Is a text a number's? -/
def isNum (l : List UInt8) : Bool := (bodyL l).all isDig && !(bodyL l).isEmpty && (decide (l = [48]) || !decide ((bodyL l).head? = some 48))
def sgnI (m : Bool) (n : Int) : Int := bif m then -n else n
def numOf (l : List UInt8) : Int := sgnI (minusL l) (numD (bodyL l) 0)
theorem numD_append : ∀ (l r : List UInt8) (a : Int), numD (l ++ r) a = numD r (numD l a)
  | [], _, _ => rfl
  | _ :: l, r, a => by simp only [List.cons_append, numD]; exact numD_append l r _
theorem numD_snoc (l : List UInt8) (b : UInt8) (a : Int) : numD (l ++ [b]) a = numD l a * 10 + (b.toNat - 48) := by
  rw [numD_append]; rfl
theorem numD_up : ∀ (l : List UInt8) (a : Int), l.all isDig = true → 0 ≤ a → a ≤ numD l a
  | [], a, _, _ => Int.le_refl a
  | b :: r, a, hd, h => by
    simp only [List.all_cons, Bool.and_eq_true] at hd
    have hb := isDig_iff.1 hd.1
    have ih := numD_up r (a * 10 + (b.toNat - 48)) hd.2 (by omega)
    simp only [numD]; omega
theorem numD_lt : ∀ (l : List UInt8) (a : Int), l.all isDig = true → 0 ≤ a → numD l a < (a + 1) * 10 ^ l.length
  | [], a, _, h => by simp [numD]; omega
  | b :: r, a, hd, h => by
    simp only [List.all_cons, Bool.and_eq_true] at hd
    have hb := isDig_iff.1 hd.1
    have ih := numD_lt r (a * 10 + (b.toNat - 48)) hd.2 (by omega)
    simp only [numD, List.length_cons]
    refine Int.lt_of_lt_of_le ih ?_
    rw [Int.pow_succ, Int.mul_comm (10 ^ r.length) 10, ← Int.mul_assoc]
    exact Int.mul_le_mul_of_nonneg_right (by omega) (Int.pow_nonneg (by omega))
theorem numD_ge : ∀ (l : List UInt8) (a : Int), l.all isDig = true → 0 ≤ a → a * 10 ^ l.length ≤ numD l a
  | [], a, _, h => by simp [numD]
  | b :: r, a, hd, h => by
    simp only [List.all_cons, Bool.and_eq_true] at hd
    have hb := isDig_iff.1 hd.1
    have ih := numD_ge r (a * 10 + (b.toNat - 48)) hd.2 (by omega)
    simp only [numD, List.length_cons]
    refine Int.le_trans ?_ ih
    rw [Int.pow_succ, Int.mul_comm (10 ^ r.length) 10, ← Int.mul_assoc]
    exact Int.mul_le_mul_of_nonneg_right (by omega) (Int.pow_nonneg (by omega))
theorem all_get {l : List UInt8} {i : Nat} {b : UInt8} (h : l.all isDig = true) (hb : l[i]? = some b) : isDig b = true :=
  List.all_eq_true.1 h b (List.mem_of_getElem? hb)
theorem all_not {l : List UInt8} {i : Nat} {b : UInt8} (hb : l[i]? = some b) (h : isDig b = false) : l.all isDig = false := by
  cases c : l.all isDig with
  | false => rfl
  | true => rw [all_get c hb] at h; cases h
theorem take_succ_get {l : List UInt8} {i : Nat} {b : UInt8} (hb : l[i]? = some b) : l.take (i + 1) = l.take i ++ [b] := by
  rw [List.take_add_one, hb]; rfl
theorem all_take {l : List UInt8} {i : Nat} {b : UInt8} (h : (l.take i).all isDig = true) (hb : l[i]? = some b) (hd : isDig b = true) : (l.take (i + 1)).all isDig = true := by
  rw [take_succ_get hb, List.all_append, h]; simp [hd]
theorem all_take_of {l : List UInt8} (h : l.all isDig = true) (i : Nat) : (l.take i).all isDig = true :=
  List.all_eq_true.2 (fun b hb => List.all_eq_true.1 h b (List.mem_of_mem_take hb))
theorem get_some {l : List UInt8} {i : Nat} (h : i < l.length) : ∃ b, l[i]? = some b := ⟨l[i], List.getElem?_eq_getElem h⟩

/-! ### Digits of a number -/
/-- A number's last digits, so many. -/
def pad : Nat → Nat → List UInt8
  | 0, _ => []
  | k + 1, n => pad k (n / 10) ++ [UInt8.ofNat (48 + n % 10)]
theorem dig_nat (n : Nat) : (UInt8.ofNat (48 + n % 10)).toNat = 48 + n % 10 := by
  rw [UInt8.toNat_ofNat']; omega
theorem dig_is (n : Nat) : isDig (UInt8.ofNat (48 + n % 10)) = true := by
  rw [isDig_iff, dig_nat]; omega
theorem pad_len : ∀ (k n : Nat), (pad k n).length = k
  | 0, _ => rfl
  | k + 1, n => by simp [pad, pad_len k]
theorem pad_dig : ∀ (k n : Nat), (pad k n).all isDig = true
  | 0, _ => rfl
  | k + 1, n => by rw [pad, List.all_append, pad_dig k, List.all_cons, dig_is]; rfl
theorem numD_pad : ∀ (k n : Nat), numD (pad k n) 0 = ((n % 10 ^ k : Nat) : Int)
  | 0, n => by simp [pad, numD, Nat.mod_one]
  | k + 1, n => by
    rw [pad, numD_snoc, numD_pad k, dig_nat]
    have h : n % 10 ^ (k + 1) = n % 10 + 10 * (n / 10 % 10 ^ k) := by
      rw [Nat.pow_succ, Nat.mul_comm (10 ^ k) 10, Nat.mod_mul]
    rw [h]; omega
theorem pad_front : ∀ (k n : Nat), pad (k + 1) n = UInt8.ofNat (48 + n / 10 ^ k % 10) :: pad k n
  | 0, n => by simp [pad]
  | k + 1, n => by
    rw [pad, pad_front k (n / 10), pad, List.cons_append, Nat.div_div_eq_div_mul, Nat.pow_succ, Nat.mul_comm 10]
theorem pad_numD (l : List UInt8) (h : l.all isDig = true) : pad l.length (numD l 0).toNat = l := by
  suffices ∀ (r : List UInt8), r.all isDig = true → pad r.length (numD r.reverse 0).toNat = r.reverse by
    have := this l.reverse (by rw [List.all_reverse]; exact h)
    simpa using this
  intro r
  induction r with
  | nil => intro _; rfl
  | cons b r ih =>
    intro hd
    simp only [List.all_cons, Bool.and_eq_true] at hd
    have hb := isDig_iff.1 hd.1
    have hr := ih hd.2
    have h0 := numD_up r.reverse 0 (by rw [List.all_reverse]; exact hd.2) (by omega)
    rw [List.reverse_cons, List.length_cons, pad, numD_snoc]
    have e1 : (numD r.reverse 0 * 10 + (b.toNat - 48)).toNat / 10 = (numD r.reverse 0).toNat := by omega
    have e2 : 48 + (numD r.reverse 0 * 10 + (b.toNat - 48)).toNat % 10 = b.toNat := by omega
    rw [e1, hr, e2, UInt8.ofNat_toNat]
theorem pad_zero : ∀ k, pad k 0 = List.replicate k 48
  | 0 => rfl
  | k + 1 => by
    rw [pad_front, pad_zero k, Nat.zero_div]; rfl
theorem pad_more (k n : Nat) (h : n < 10 ^ k) : ∀ j, pad (j + k) n = List.replicate j 48 ++ pad k n
  | 0 => by simp
  | j + 1 => by
    rw [show j + 1 + k = (j + k) + 1 by omega, pad_front, pad_more k n h j]
    have : n / 10 ^ (j + k) = 0 := Nat.div_eq_of_lt (Nat.lt_of_lt_of_le h (Nat.pow_le_pow_right (by omega) (by omega)))
    rw [this]; rfl
def is48 (b : UInt8) : Bool := decide (b = 48)
theorem numD_drop : ∀ l : List UInt8, numD (l.dropWhile is48) 0 = numD l 0
  | [] => rfl
  | b :: r => by
    by_cases c : b = 48
    · subst c
      rw [List.dropWhile_cons_of_pos (by decide), numD_drop r]; rfl
    · rw [List.dropWhile_cons_of_neg (by simp [is48, c])]
theorem drop_zeros : ∀ (j : Nat) (l : List UInt8), (List.replicate j 48 ++ l).dropWhile is48 = l.dropWhile is48
  | 0, _ => by simp
  | j + 1, l => by
    rw [List.replicate_succ, List.cons_append, List.dropWhile_cons_of_pos (by decide), drop_zeros j l]
theorem drop_none {l : List UInt8} (h : l.head? ≠ some 48) : l.dropWhile is48 = l := by
  cases l with
  | nil => rfl
  | cons b r => exact List.dropWhile_cons_of_neg (by simpa [is48] using h)
theorem drop_head : ∀ l : List UInt8, (l.dropWhile is48).head? ≠ some 48
  | [] => by simp
  | b :: r => by
    by_cases c : b = 48
    · subst c; rw [List.dropWhile_cons_of_pos (by decide)]; exact drop_head r
    · rw [List.dropWhile_cons_of_neg (by simp [is48, c])]; simpa using c
theorem drop_all {l : List UInt8} (h : l.all isDig = true) : (l.dropWhile is48).all isDig = true :=
  List.all_eq_true.2 (fun b hb => List.all_eq_true.1 h b ((List.dropWhile_sublist _).mem hb))
/-- The decimal text of a number from 0 on, and of any number. -/
def decN (n : Nat) : List UInt8 := if (pad 39 n).dropWhile is48 = [] then [48] else (pad 39 n).dropWhile is48
def decText (z : Int) : List UInt8 := if z < 0 then 45 :: decN z.natAbs else decN z.natAbs
theorem decN_of {l : List UInt8} (h : l.all isDig = true) (h0 : l ≠ []) (h1 : l.head? ≠ some 48) (hl : l.length ≤ 39) : decN (numD l 0).toNat = l := by
  have hn := numD_lt l 0 h (by omega)
  have h2 := numD_up l 0 h (by omega)
  have hb : (numD l 0).toNat < 10 ^ l.length := by
    have e : ((10 ^ l.length : Nat) : Int) = (10 : Int) ^ l.length := by simp
    omega
  have e : pad 39 (numD l 0).toNat = List.replicate (39 - l.length) 48 ++ l := by
    have := pad_more l.length _ hb (39 - l.length)
    rw [show 39 - l.length + l.length = 39 by omega, pad_numD l h] at this
    exact this
  unfold decN
  rw [e, drop_zeros, drop_none h1, if_neg h0]
theorem decN_zero : decN 0 = [48] := by decide
theorem decN_len (n : Nat) : (decN n).length ≤ 39 := by
  unfold decN
  split
  · simp
  · have := (List.dropWhile_sublist is48 (l := pad 39 n)).length_le
    rw [pad_len] at this; exact this
theorem decN_dig (n : Nat) : (decN n).all isDig = true := by
  unfold decN
  split
  · decide
  · exact drop_all (pad_dig 39 n)
theorem decN_ne (n : Nat) : decN n ≠ [] := by
  unfold decN
  split
  · simp
  · assumption
theorem decN_num {n : Nat} (h : n < 10 ^ 39) : numD (decN n) 0 = n := by
  have e := numD_pad 39 n
  rw [Nat.mod_eq_of_lt h] at e
  unfold decN
  split
  · rename_i c
    have := numD_drop (pad 39 n)
    rw [c, e] at this
    rw [← this]; rfl
  · rw [numD_drop, e]
theorem decN_head {n : Nat} (h : n < 10 ^ 39) : (decN n).head? = some 48 → n = 0 := by
  intro hh
  have e := decN_num h
  unfold decN at hh e
  split at hh
  · rename_i c
    rw [if_pos c] at e
    have : numD [48] 0 = 0 := rfl
    omega
  · exact absurd hh (drop_head _)
theorem dig_not45 {l : List UInt8} (h : l.all isDig = true) : l.head? ≠ some 45 := by
  cases l with
  | nil => simp
  | cons b r =>
    simp only [List.all_cons, Bool.and_eq_true] at h
    have hb := isDig_iff.1 h.1
    intro c
    simp only [List.head?_cons, Option.some.injEq] at c
    subst c
    have : (45 : UInt8).toNat = 45 := rfl
    omega
theorem decText_is {z : Int} (h : z.natAbs < 10 ^ 39) : isNum (decText z) = true ∧ numOf (decText z) = z := by
  have hd := decN_dig z.natAbs
  have hn := decN_num h
  have h0 := decN_ne z.natAbs
  unfold decText
  split
  · rename_i c
    have hz : (decN z.natAbs).head? ≠ some 48 := fun q => by have := decN_head h q; omega
    refine ⟨?_, ?_⟩
    · simp [isNum, bodyL, hd, h0, hz]
    · simp only [numOf, minusL, bodyL, List.head?_cons, decide_true, if_true, List.drop_succ_cons, List.drop_zero, sgnI, cond_true, hn]
      omega
  · rename_i c
    have h45 := dig_not45 hd
    have hq : decN z.natAbs = [48] ∨ (decN z.natAbs).head? ≠ some 48 := by
      by_cases q : z.natAbs = 0
      · left; rw [q]; exact decN_zero
      · right; exact fun e => q (decN_head h e)
    refine ⟨?_, ?_⟩
    · simp only [isNum, bodyL, if_neg h45, hd, Bool.true_and, Bool.and_eq_true, Bool.or_eq_true, decide_eq_true_eq, Bool.not_eq_true', decide_eq_false_iff_not, List.isEmpty_eq_false_iff]
      exact ⟨h0, hq⟩
    · simp only [numOf, minusL, bodyL, if_neg h45, decide_eq_false h45, sgnI, cond_false, hn]
      omega
theorem pow39 : (2 : Nat) ^ 127 < 10 ^ 39 := by decide
/-- A number's text is that number's text. -/
theorem decText_of {l : List UInt8} (h : isNum l = true) (hw : (numOf l).natAbs < 10 ^ 39) : decText (numOf l) = l := by
  simp only [isNum, Bool.and_eq_true, Bool.or_eq_true, decide_eq_true_eq, Bool.not_eq_true', decide_eq_false_iff_not, List.isEmpty_eq_false_iff] at h
  obtain ⟨⟨hd, h0⟩, hz⟩ := h
  have hu := numD_up (bodyL l) 0 hd (by omega)
  have hab : (numOf l).natAbs = (numD (bodyL l) 0).toNat := by
    unfold numOf sgnI; cases minusL l <;> simp <;> omega
  by_cases q : l = [48]
  · subst q; decide
  · have hz : (bodyL l).head? ≠ some 48 := hz.resolve_left q
    -- the first digit is not 0: it is long only if it is great
    have hlen : (bodyL l).length ≤ 39 := by
      cases hb : bodyL l with
      | nil => simp
      | cons b r =>
        rw [hb] at hd hz hab
        simp only [List.all_cons, Bool.and_eq_true] at hd
        have hbd := isDig_iff.1 hd.1
        have hb48 : b.toNat ≠ 48 := fun e => hz (by
          simp only [List.head?_cons, Option.some.injEq]
          exact UInt8.toNat_inj.1 e)
        have hg := numD_ge r (b.toNat - 48) hd.2 (by omega)
        have hnum : numD (b :: r) 0 = numD r (b.toNat - 48) := by simp only [numD]; congr 1; omega
        have h1 : (1 : Int) * 10 ^ r.length ≤ (b.toNat - 48) * 10 ^ r.length := Int.mul_le_mul_of_nonneg_right (by omega) (Int.pow_nonneg (by omega))
        rw [List.length_cons]
        by_cases g : r.length + 1 ≤ 39
        · exact g
        · exfalso
          have h2 : (10 : Nat) ^ 39 ≤ 10 ^ r.length := Nat.pow_le_pow_right (by omega) (by omega)
          have e : ((10 ^ r.length : Nat) : Int) = (10 : Int) ^ r.length := by simp
          omega
    have hN := decN_of hd h0 hz hlen
    have hne : (numD (bodyL l) 0).toNat ≠ 0 := by
      intro e
      rw [e, decN_zero] at hN
      exact hz (by rw [← hN]; rfl)
    unfold decText
    rw [hab, hN]
    by_cases m : l.head? = some 45
    · have hneg : numOf l < 0 := by
        simp only [numOf, minusL, m, decide_true, sgnI, cond_true]; omega
      rw [if_pos hneg]
      simp only [bodyL, m, if_true]
      cases l with
      | nil => cases m
      | cons b r => simp only [List.head?_cons, Option.some.injEq] at m; subst m; simp
    · have hneg : ¬ numOf l < 0 := by
        simp only [numOf, minusL, m, decide_false, sgnI, cond_false]; omega
      rw [if_neg hneg]
      simp only [bodyL, m, if_false]
end Go.Proofs.YtpglfepkbkfgoaaDoor
