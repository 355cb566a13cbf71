/-
  Lines of a leap second file as lists of bytes: what is a blank, a digit, a number, a word; what a line says ('scanL'); which lines a text has ('linesL'). No program is spoken of; no conditions.
-/
import Derived.Test.YthjgilocbfhffaaDoorVcQ
namespace Go.Proofs.YthjgilocbfhffaaDoor
open Go.RowKit

def isBl (c : UInt8) : Bool := decide (c.toNat = 32) || decide (c.toNat = 9)
def digN (c : UInt8) : Nat := if 48 ≤ c.toNat ∧ c.toNat ≤ 57 then c.toNat - 48 else if 97 ≤ c.toNat ∧ c.toNat ≤ 102 then c.toNat - 87 else 16
def isD (base : Nat) (c : UInt8) : Bool := decide (digN c < base)
/-- The number that has these digits, behind n. -/
def cnt (base : Nat) : List UInt8 → Nat → Nat
  | [], n => n
  | c :: l, n => cnt base l (base * n + digN c)
theorem digN_le (c : UInt8) : digN c ≤ 16 := by unfold digN; split; omega; split <;> omega
theorem digN_a {c : UInt8} (h1 : 48 ≤ c.toNat) (h2 : c.toNat ≤ 57) : digN c = c.toNat - 48 := by unfold digN; rw [if_pos ⟨h1, h2⟩]
theorem digN_b {c : UInt8} (h1 : 97 ≤ c.toNat) (h2 : c.toNat ≤ 102) : digN c = c.toNat - 87 := by unfold digN; rw [if_neg (by omega), if_pos ⟨h1, h2⟩]
theorem digN_c {c : UInt8} (h1 : ¬ (48 ≤ c.toNat ∧ c.toNat ≤ 57)) (h2 : ¬ (97 ≤ c.toNat ∧ c.toNat ≤ 102)) : digN c = 16 := by unfold digN; rw [if_neg h1, if_neg h2]
theorem isD_ten {c : UInt8} : isD 10 c = true ↔ 48 ≤ c.toNat ∧ c.toNat ≤ 57 := by
  unfold isD digN
  constructor
  · intro h
    rw [decide_eq_true_eq] at h
    split at h
    · assumption
    · split at h <;> omega
  · intro h
    rw [if_pos h]
    exact decide_eq_true (by omega)
theorem isD_16 {c : UInt8} : isD 16 c = true ↔ (48 ≤ c.toNat ∧ c.toNat ≤ 57) ∨ (97 ≤ c.toNat ∧ c.toNat ≤ 102) := by
  unfold isD digN
  constructor
  · intro h
    rw [decide_eq_true_eq] at h
    split at h
    · exact .inl (by assumption)
    · split at h
      · exact .inr (by assumption)
      · omega
  · intro h
    rcases h with h | h
    · rw [if_pos h]; exact decide_eq_true (by omega)
    · rw [if_neg (by omega), if_pos h]; exact decide_eq_true (by omega)
theorem cnt_append (base : Nat) : ∀ (l r : List UInt8) (n : Nat), cnt base (l ++ r) n = cnt base r (cnt base l n)
  | [], _, _ => rfl
  | c :: l, r, n => by rw [List.cons_append, cnt, cnt, cnt_append base l r]
theorem cnt_snoc (base : Nat) (l : List UInt8) (c : UInt8) (n : Nat) : cnt base (l ++ [c]) n = base * cnt base l n + digN c := by rw [cnt_append]; rfl
theorem cnt_lt (base : Nat) : ∀ (l : List UInt8) (n : Nat), l.all (isD base) = true → cnt base l n < (n + 1) * base ^ l.length
  | [], n, _ => by simp [cnt]
  | c :: l, n, h => by
    rw [List.all_cons, Bool.and_eq_true] at h
    have hc : digN c < base := of_decide_eq_true h.1
    have ih := cnt_lt base l (base * n + digN c) h.2
    rw [cnt, List.length_cons, Nat.pow_succ]
    refine Nat.lt_of_lt_of_le ih ?_
    calc (base * n + digN c + 1) * base ^ l.length ≤ ((n + 1) * base) * base ^ l.length := Nat.mul_le_mul_right _ (by rw [Nat.add_mul, Nat.mul_comm n base]; omega)
      _ = (n + 1) * (base ^ l.length * base) := by rw [Nat.mul_assoc, Nat.mul_comm base]
theorem take_succ {l : List UInt8} {i : Nat} {b : UInt8} (hb : l[i]? = some b) : l.take (i + 1) = l.take i ++ [b] := by
  rw [List.take_add_one, hb]; rfl
theorem all_takeP {p : UInt8 → Bool} {l : List UInt8} (h : l.all p = true) (i : Nat) : (l.take i).all p = true :=
  List.all_eq_true.2 fun x hx => List.all_eq_true.1 h x (List.mem_of_mem_take hx)
theorem all_snoc {p : UInt8 → Bool} {l : List UInt8} {i : Nat} {b : UInt8} (h : (l.take i).all p = true) (hb : l[i]? = some b) (hp : p b = true) : (l.take (i + 1)).all p = true := by
  rw [take_succ hb, List.all_append, h]; simp [hp]
theorem get_some {l : List UInt8} {i : Nat} (h : i < l.length) : ∃ b, l[i]? = some b := ⟨l[i], List.getElem?_eq_getElem h⟩
theorem cnt_step {base : Nat} {t : List UInt8} {i : Nat} (h : t.all (isD base) = true) (hi : i < t.length) (h0 : 0 < base) : base * cnt base (t.take i) 0 + base ≤ base ^ t.length := by
  have h1 := cnt_lt base (t.take i) 0 (all_takeP h i)
  rw [List.length_take, Nat.min_eq_left (by omega), Nat.zero_add, Nat.one_mul] at h1
  have h2 : base ^ (i + 1) ≤ base ^ t.length := Nat.pow_le_pow_right h0 (by omega)
  have h3 : base * (cnt base (t.take i) 0 + 1) ≤ base * base ^ i := Nat.mul_le_mul_left _ h1
  rw [Nat.pow_succ, Nat.mul_comm] at h2
  rw [Nat.mul_add, Nat.mul_one] at h3
  omega
/-- Where a while ends. -/
theorem tw_at {p : UInt8 → Bool} : ∀ {l : List UInt8} {i : Nat}, (l.take i).all p = true → (∀ c, l[i]? = some c → p c = false) → l.takeWhile p = l.take i ∧ l.dropWhile p = l.drop i
  | [], _, _, _ => by simp
  | c :: l, 0, _, hn => by
    have := hn c rfl
    simp [this]
  | c :: l, i + 1, h, hn => by
    rw [List.take_succ_cons, List.all_cons, Bool.and_eq_true] at h
    obtain ⟨h1, h2⟩ := tw_at h.2 (fun d hd => hn d (by simpa using hd))
    rw [List.takeWhile_cons_of_pos h.1, List.dropWhile_cons_of_pos h.1, h1, h2]
    exact ⟨rfl, rfl⟩
theorem tw_len (p : UInt8 → Bool) : ∀ l : List UInt8, (l.takeWhile p).length + (l.dropWhile p).length = l.length
  | [] => rfl
  | c :: l => by
    by_cases h : p c = true
    · rw [List.takeWhile_cons_of_pos h, List.dropWhile_cons_of_pos h]; have := tw_len p l; simp; omega
    · rw [List.takeWhile_cons_of_neg h, List.dropWhile_cons_of_neg h]; simp
theorem tw_drop (p : UInt8 → Bool) : ∀ l : List UInt8, l.drop (l.takeWhile p).length = l.dropWhile p
  | [] => rfl
  | c :: l => by
    by_cases h : p c = true
    · rw [List.takeWhile_cons_of_pos h, List.dropWhile_cons_of_pos h]; simpa using tw_drop p l
    · rw [List.takeWhile_cons_of_neg h, List.dropWhile_cons_of_neg h]; rfl
theorem tw_take (p : UInt8 → Bool) : ∀ l : List UInt8, l.take (l.takeWhile p).length = l.takeWhile p
  | [] => rfl
  | c :: l => by
    by_cases h : p c = true
    · rw [List.takeWhile_cons_of_pos h]; simpa using tw_take p l
    · rw [List.takeWhile_cons_of_neg h]; rfl
theorem tw_all (p : UInt8 → Bool) : ∀ l : List UInt8, (l.takeWhile p).all p = true
  | [] => rfl
  | c :: l => by
    by_cases h : p c = true
    · rw [List.takeWhile_cons_of_pos h, List.all_cons, h, tw_all p l]; rfl
    · rw [List.takeWhile_cons_of_neg h]; rfl
theorem tw_head {p : UInt8 → Bool} {l : List UInt8} (h : l.takeWhile p ≠ []) : (l.takeWhile p).head? = l.head? := by
  cases l with
  | nil => rfl
  | cons c l =>
    by_cases q : p c = true
    · rw [List.takeWhile_cons_of_pos q]; rfl
    · rw [List.takeWhile_cons_of_neg q] at h; exact absurd rfl h

/-! ### What a line says -/
def nB (l : List UInt8) : Bool := decide (l.takeWhile isBl = [])
def aB (l : List UInt8) : List UInt8 := l.dropWhile isBl
def dT (base : Nat) (l : List UInt8) : List UInt8 := l.takeWhile (isD base)
def dR (base : Nat) (l : List UInt8) : List UInt8 := l.dropWhile (isD base)
def dgBad (base most : Nat) (l : List UInt8) : Bool := decide (dT base l = []) || decide (most < (dT base l).length)
def dg (base most : Nat) (l : List UInt8) : List UInt8 := if dgBad base most l = true then [] else dT base l
def numBad (l : List UInt8) : Bool := dgBad 10 18 l || (decide (1 < (dg 10 18 l).length) && decide ((dg 10 18 l).head? = some 48))
def numVal (l : List UInt8) : Int := cnt 10 (dg 10 18 l) 0
def wordVal (l : List UInt8) : Int := cnt 16 (dg 16 8 l) 0
def lineC (k a b : Int) (ws : List Int) : List Value := .int .i64 k :: .int .i64 a :: .int .i64 b :: ws.map (.int .u32)
def z5 : List Int := [0, 0, 0, 0, 0]
def zeroC : List Value := lineC 0 0 0 z5
theorem dg_len (base most : Nat) (l : List UInt8) : (dg base most l).length ≤ most := by
  unfold dg
  split
  · simp
  · rename_i h
    simp only [dgBad, Bool.or_eq_true, decide_eq_true_eq, not_or] at h
    omega
theorem dg_all (base most : Nat) (l : List UInt8) : (dg base most l).all (isD base) = true := by
  unfold dg
  split
  · rfl
  · exact tw_all _ _
theorem numVal_in (l : List UInt8) : 0 ≤ numVal l ∧ numVal l < 1000000000000000000 := by
  have h := cnt_lt 10 (dg 10 18 l) 0 (dg_all 10 18 l)
  have h2 : 10 ^ (dg 10 18 l).length ≤ 10 ^ 18 := Nat.pow_le_pow_right (by decide) (dg_len 10 18 l)
  unfold numVal
  omega
theorem wordVal_in (l : List UInt8) : 0 ≤ wordVal l ∧ wordVal l < 4294967296 := by
  have h := cnt_lt 16 (dg 16 8 l) 0 (dg_all 16 8 l)
  have h2 : 16 ^ (dg 16 8 l).length ≤ 16 ^ 8 := Nat.pow_le_pow_right (by decide) (dg_len 16 8 l)
  unfold wordVal
  omega
def stOk (l : List UInt8) : Bool := !(nB l || numBad (aB l)) && decide (aB (dR 10 (aB l)) = [])
def stampL (k : Int) (l : List UInt8) : Option (List Value) := if stOk l = true then some (lineC k (numVal (aB l)) 0 z5) else none
/-- What is left behind n words; whether one was not there; the words. -/
def hLeft : Nat → List UInt8 → List UInt8
  | 0, l => l
  | n + 1, l => dR 16 (aB (hLeft n l))
def hBad : Nat → List UInt8 → Bool
  | 0, _ => false
  | n + 1, l => hBad n l || nB (hLeft n l) || dgBad 16 8 (aB (hLeft n l))
def hWord (n : Nat) (l : List UInt8) : Int := wordVal (aB (hLeft n l))
def hWs (n : Nat) (l : List UInt8) : List Int := (List.range n).map (fun j => hWord j l) ++ List.replicate (5 - n) 0
def hOk (l : List UInt8) : Bool := !hBad 5 l && decide (aB (hLeft 5 l) = [])
def hashL (l : List UInt8) : Option (List Value) := if hOk l = true then some (lineC 4 0 0 (hWs 5 l)) else none
def daOk (l : List UInt8) : Bool :=
  !(numBad l || nB (dR 10 l) || numBad (aB (dR 10 l))) && (decide (aB (dR 10 (aB (dR 10 l))) = []) || (!nB (dR 10 (aB (dR 10 l))) && decide ((aB (dR 10 (aB (dR 10 l)))).take 1 = [35])))
def dataL (l : List UInt8) : Option (List Value) := if daOk l = true then some (lineC 5 (numVal l) (numVal (aB (dR 10 l))) z5) else none
def scanL (l : List UInt8) : Option (List Value) :=
  if aB l = [] then some (lineC 1 0 0 z5)
  else if l.take 2 = [35, 36] then stampL 2 (l.drop 2)
  else if l.take 2 = [35, 64] then stampL 3 (l.drop 2)
  else if l.take 2 = [35, 104] then hashL (l.drop 2)
  else if l.take 1 = [35] then some (lineC 1 0 0 z5)
  else dataL l
theorem hWs_len {n : Nat} (h : n ≤ 5) (l : List UInt8) : (hWs n l).length = 5 := by simp [hWs]; omega
theorem hWs_set {n : Nat} (h : n < 5) (l : List UInt8) : (hWs n l).set n (hWord n l) = hWs (n + 1) l := by
  unfold hWs
  rw [List.set_append_right _ _ (by simp), List.length_map, List.length_range, Nat.sub_self, show 5 - n = (5 - (n + 1)) + 1 by omega, List.replicate_succ, List.set_cons_zero, List.range_succ, List.map_append, List.append_assoc]
  rfl
/-- The form of what a line says. -/
theorem scanL_form {l : List UInt8} {cs : List Value} (h : scanL l = some cs) : ∃ k a b v0 v1 v2 v3 v4, cs = lineC k a b [v0, v1, v2, v3, v4] := by
  have key : ∀ {k a b : Int} {ws : List Int}, ws.length = 5 → ∃ k' a' b' v0 v1 v2 v3 v4, lineC k a b ws = lineC k' a' b' [v0, v1, v2, v3, v4] := by
    intro k a b ws hw
    match ws, hw with
    | [v0, v1, v2, v3, v4], _ => exact ⟨k, a, b, v0, v1, v2, v3, v4, rfl⟩
  unfold scanL at h
  split at h
  · cases h; exact key rfl
  · split at h
    · unfold stampL at h; split at h <;> cases h; exact key rfl
    · split at h
      · unfold stampL at h; split at h <;> cases h; exact key rfl
      · split at h
        · unfold hashL at h; split at h <;> cases h; exact key (hWs_len (Nat.le_refl 5) _)
        · split at h
          · cases h; exact key rfl
          · unfold dataL at h; split at h <;> cases h; exact key rfl

/-! ### Which lines a text has -/
def no10 (c : UInt8) : Bool := !decide (c.toNat = 10)
def linesL : List UInt8 → List (List UInt8)
  | [] => []
  | c :: l =>
    if c.toNat = 10 then [] :: linesL l
    else match linesL l with
      | [] => [[c]]
      | x :: xs => (c :: x) :: xs
theorem lines_cut : ∀ {l : List UInt8}, l ≠ [] → linesL l = l.takeWhile no10 :: linesL ((l.dropWhile no10).drop 1)
  | [], h => absurd rfl h
  | [c], _ => by
    by_cases q : c.toNat = 10
    · simp [linesL, no10, q]
    · simp [linesL, no10, q]
  | c :: d :: l, _ => by
    by_cases q : c.toNat = 10
    · rw [linesL, if_pos q, List.takeWhile_cons_of_neg (by simp [no10, q]), List.dropWhile_cons_of_neg (by simp [no10, q])]; rfl
    · have q' : no10 c = true := by simp [no10, q]
      rw [linesL, if_neg q, lines_cut (l := d :: l) (by simp), List.takeWhile_cons_of_pos (a := c) q', List.dropWhile_cons_of_pos (a := c) q']
theorem lines_len : ∀ l : List UInt8, (linesL l).length ≤ l.length
  | [] => Nat.le_refl _
  | c :: l => by
    have ih := lines_len l
    rw [linesL]
    split
    · simp; omega
    · split
      · simp
      · rename_i h; rw [h] at ih; simp at ih ⊢; omega
theorem lines_app {x : List UInt8} (h : x.all no10 = true) (r : List UInt8) : linesL (x ++ 10 :: r) = x :: linesL r := by
  have ht : (x ++ 10 :: r).takeWhile no10 = x ∧ (x ++ 10 :: r).dropWhile no10 = 10 :: r := by
    have := tw_at (p := no10) (l := x ++ 10 :: r) (i := x.length) (by simpa using h) (fun c hc => by simp at hc; subst hc; rfl)
    simpa using this
  rw [lines_cut (by simp), ht.1, ht.2]; rfl
theorem lines_one {x : List UInt8} (h : x.all no10 = true) (h0 : x ≠ []) : linesL x = [x] := by
  have ht : x.takeWhile no10 = x ∧ x.dropWhile no10 = [] := by
    have := tw_at (p := no10) (l := x) (i := x.length) (by simpa using h) (fun c hc => by simp at hc)
    simpa using this
  rw [lines_cut h0, ht.1, ht.2]; rfl
def joinL : List (List UInt8) → List UInt8
  | [] => []
  | x :: xs => x ++ 10 :: joinL xs
theorem join_app : ∀ (a b : List (List UInt8)), joinL (a ++ b) = joinL a ++ joinL b
  | [], _ => rfl
  | x :: a, b => by rw [List.cons_append, joinL, joinL, join_app a b]; simp
theorem lines_join : ∀ {L : List (List UInt8)} (r : List UInt8), (∀ x ∈ L, x.all no10 = true) → linesL (joinL L ++ r) = L ++ linesL r
  | [], r, _ => rfl
  | x :: L, r, h => by
    rw [joinL, List.append_assoc, List.cons_append, lines_app (h x (by simp)), lines_join r (fun y hy => h y (by simp [hy]))]; rfl
/-- The first byte 10. -/
theorem index_no : ∀ {l : List UInt8}, Lib.indexByte l 10 = -1 → l.takeWhile no10 = l ∧ l.dropWhile no10 = []
  | [], _ => ⟨rfl, rfl⟩
  | c :: l, h => by
    unfold Lib.indexByte at h
    by_cases q : (c == 10) = true
    · rw [if_pos q] at h; exact absurd h (by decide)
    · rw [if_neg q] at h
      have q' : no10 c = true := by
        simp only [beq_iff_eq] at q
        simp only [no10, Bool.not_eq_true', decide_eq_false_iff_not]
        exact fun e => q (UInt8.toNat_inj.1 e)
      split at h
      · rename_i h1
        obtain ⟨a, b⟩ := index_no (by simpa using h1)
        rw [List.takeWhile_cons_of_pos q', List.dropWhile_cons_of_pos q', a, b]; exact ⟨rfl, rfl⟩
      · have := Lib.indexByte_ge l 10
        omega
theorem index_at : ∀ {l : List UInt8} {z : Int}, Lib.indexByte l 10 = z → 0 ≤ z → l.takeWhile no10 = l.take z.toNat ∧ (l.dropWhile no10).drop 1 = l.drop (z.toNat + 1) ∧ z + 1 ≤ l.length
  | [], z, h, h0 => by unfold Lib.indexByte at h; omega
  | c :: l, z, h, h0 => by
    unfold Lib.indexByte at h
    by_cases q : (c == 10) = true
    · rw [if_pos q] at h
      subst h
      have q' : ¬ no10 c = true := by
        simp only [beq_iff_eq] at q
        subst q
        decide
      rw [List.takeWhile_cons_of_neg q', List.dropWhile_cons_of_neg q']
      exact ⟨rfl, rfl, by simp; omega⟩
    · rw [if_neg q] at h
      have q' : no10 c = true := by
        simp only [beq_iff_eq] at q
        simp only [no10, Bool.not_eq_true', decide_eq_false_iff_not]
        exact fun e => q (UInt8.toNat_inj.1 e)
      split at h
      · omega
      · rename_i h1
        have h2 := Lib.indexByte_ge l 10
        have h3 : Lib.indexByte l 10 ≠ -1 := by simpa using h1
        obtain ⟨a, b, d⟩ := index_at (l := l) rfl (by omega)
        have e : z.toNat = (Lib.indexByte l 10).toNat + 1 := by omega
        rw [List.takeWhile_cons_of_pos q', List.dropWhile_cons_of_pos q', a, b, e]
        exact ⟨rfl, rfl, by simp; omega⟩
/-! ### Cells of a line -/
theorem aB_len (l : List UInt8) : (aB l).length ≤ l.length := by have := tw_len isBl l; unfold aB; omega
theorem dR_len (base : Nat) (l : List UInt8) : (dR base l).length ≤ l.length := by have := tw_len (isD base) l; unfold dR; omega
theorem hLeft_len : ∀ (n : Nat) (l : List UInt8), (hLeft n l).length ≤ l.length
  | 0, _ => Nat.le_refl _
  | n + 1, l => Nat.le_trans (dR_len _ _) (Nat.le_trans (aB_len _) (hLeft_len n l))
def isLine (cs : List Value) : Prop := ∃ k a b v0 v1 v2 v3 v4, cs = lineC k a b [v0, v1, v2, v3, v4]
theorem isLine_of {k a b : Int} {ws : List Int} (hw : ws.length = 5) : isLine (lineC k a b ws) := by
  match ws, hw with
  | [v0, v1, v2, v3, v4], _ => exact ⟨k, a, b, v0, v1, v2, v3, v4, rfl⟩
theorem zero_line : isLine zeroC := isLine_of rfl
theorem stamp_line (k : Int) (l : List UInt8) : isLine ((stampL k l).getD zeroC) := by
  unfold stampL; split
  · exact isLine_of rfl
  · exact zero_line
theorem hash_line (l : List UInt8) : isLine ((hashL l).getD zeroC) := by
  unfold hashL; split
  · exact isLine_of (hWs_len (Nat.le_refl 5) _)
  · exact zero_line
theorem data_line (l : List UInt8) : isLine ((dataL l).getD zeroC) := by
  unfold dataL; split
  · exact isLine_of rfl
  · exact zero_line
theorem lineC_len {k a b : Int} {ws : List Int} (hw : ws.length = 5) : (lineC k a b ws).length = 8 := by simp [lineC, hw]
theorem lineC_one (k a b : Int) (ws : List Int) : (lineC k a b ws).all (·.oneCell') = true := by
  rw [List.all_eq_true]
  intro x hx
  simp only [lineC, List.mem_cons, List.mem_map] at hx
  rcases hx with rfl | rfl | rfl | ⟨y, _, rfl⟩ <;> rfl
theorem lineC_set {k a b : Int} {ws : List Int} {n : Nat} {v : Int} : (lineC k a b ws).set (3 + n * 1) (.int .u32 v) = lineC k a b (ws.set n v) := by
  unfold lineC
  rw [Nat.mul_one, show 3 + n = n + 1 + 1 + 1 by omega, List.set_cons_succ, List.set_cons_succ, List.set_cons_succ, List.map_set]
theorem write_word {P : Program} {t : TypeId} {k a b : Int} {n : Nat} {l : List UInt8} (hs : (P.info? t).map (·.size) = some 1) (hn : n < 5) : writeOf P t (lineC k a b (hWs n l)) (3 + n * 1) (.int .u32 (hWord n l)) = some (lineC k a b (hWs (n + 1) l)) := by
  rw [write_one hs rfl rfl (by rw [lineC_len (hWs_len (by omega) l)]; omega), lineC_set, hWs_set hn]
theorem data_yes1 {l : List UInt8} (h : (!(false || numBad l || nB (dR 10 l) || numBad (aB (dR 10 l))) && decide (aB (dR 10 (aB (dR 10 l))) = [])) = true) : daOk l = true := by
  unfold daOk
  simp only [Bool.and_eq_true, Bool.false_or] at h
  rw [h.1, h.2]; rfl
theorem data_yes2 {l : List UInt8} (hn : nB (dR 10 (aB (dR 10 l))) = false) (h : (!(false || numBad l || nB (dR 10 l) || numBad (aB (dR 10 l))) && decide ((aB (dR 10 (aB (dR 10 l)))).take 1 = [35])) = true) : daOk l = true := by
  unfold daOk
  simp only [Bool.and_eq_true, Bool.false_or] at h
  rw [h.1, h.2, hn]; simp
theorem data_no {l : List UInt8} (h : (!(false || numBad l || nB (dR 10 l) || numBad (aB (dR 10 l))) && decide (aB (dR 10 (aB (dR 10 l))) = [])) = false)
    (h2 : nB (dR 10 (aB (dR 10 l))) = true ∨ (!(false || numBad l || nB (dR 10 l) || numBad (aB (dR 10 l))) && decide ((aB (dR 10 (aB (dR 10 l)))).take 1 = [35])) = false) : daOk l = false := by
  unfold daOk
  simp only [Bool.false_or] at h h2
  cases hx : !(numBad l || nB (dR 10 l) || numBad (aB (dR 10 l))) with
  | false => rfl
  | true =>
    rw [hx, Bool.true_and] at h h2
    rw [h]
    rcases h2 with e | e
    · rw [e]; rfl
    · rw [e]; simp
end Go.Proofs.YthjgilocbfhffaaDoor
