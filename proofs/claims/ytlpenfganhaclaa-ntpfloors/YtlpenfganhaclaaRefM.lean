/-
  Numbers as lists of digits to the base 65536, the least first: plain arithmetic, no program in sight. No conditions.
-/
namespace Go.Proofs.Ytlpenfganhaclaa

/-- Which one of two numbers is greater. -/
def cmpI (a b : Int) : Int := if a < b then -1 else if b < a then 1 else 0
theorem cmpI_lt {a b : Int} (h : a < b) : cmpI a b = -1 := by unfold cmpI; rw [if_pos h]
theorem cmpI_gt {a b : Int} (h : b < a) : cmpI a b = 1 := by unfold cmpI; rw [if_neg (by omega), if_pos h]
theorem cmpI_eq {a b : Int} (h : a = b) : cmpI a b = 0 := by unfold cmpI; rw [if_neg (by omega), if_neg (by omega)]
/-- The number that digits stand for. -/
def val : List Int → Int
  | [] => 0
  | z :: zs => z + 65536 * val zs
/-- Digit j; 0 behind the end. Under a name of its own. -/
def dg (zs : List Int) (j : Nat) : Int := zs.getD j 0
/-- Each is a digit. -/
def Dig (zs : List Int) : Prop := ∀ j, 0 ≤ zs.getD j 0 ∧ zs.getD j 0 < 65536
/-- No nought at the end. -/
def Canon (zs : List Int) : Prop := zs = [] ∨ zs.getD (zs.length - 1) 0 ≠ 0
/-- 65536 to a power, under a name. -/
def pw (k : Nat) : Int := 65536 ^ k
theorem pw_zero : pw 0 = 1 := rfl
theorem pw_succ (k : Nat) : pw (k + 1) = 65536 * pw k := by unfold pw; rw [Int.pow_succ, Int.mul_comm]
theorem pw_pos (k : Nat) : 0 < pw k := by
  induction k with
  | zero => rw [pw_zero]; decide
  | succ k ih => rw [pw_succ]; omega
theorem pw_add (i j : Nat) : pw (i + j) = pw i * pw j := by unfold pw; rw [Int.pow_add]
theorem pw_mono {i j : Nat} (h : i ≤ j) : pw i ≤ pw j := by
  induction j with
  | zero => obtain rfl : i = 0 := by omega
            omega
  | succ j ih =>
    by_cases e : i = j + 1
    · subst e; omega
    · have := ih (by omega); have := pw_pos j; rw [pw_succ]; omega

theorem dig_nil : Dig [] := fun j => by simp
theorem dig_tail {z : Int} {zs : List Int} (h : Dig (z :: zs)) : Dig zs := fun j => by have := h (j + 1); simpa using this
theorem dig_head {z : Int} {zs : List Int} (h : Dig (z :: zs)) : 0 ≤ z ∧ z < 65536 := by have := h 0; simpa using this
theorem getD_append_lt (xs ys : List Int) {j : Nat} (h : j < xs.length) : (xs ++ ys).getD j 0 = xs.getD j 0 := by
  simp [List.getD, List.getElem?_append_left h]
theorem getD_append_ge (xs ys : List Int) {j : Nat} (h : xs.length ≤ j) : (xs ++ ys).getD j 0 = ys.getD (j - xs.length) 0 := by
  simp [List.getD, List.getElem?_append_right h]
theorem getD_end (xs : List Int) {j : Nat} (h : xs.length ≤ j) : xs.getD j 0 = 0 := by
  simp [List.getD, List.getElem?_eq_none h]
theorem dig_snoc {zs : List Int} {z : Int} (h : Dig zs) (h0 : 0 ≤ z) (h1 : z < 65536) : Dig (zs ++ [z]) := by
  intro j
  by_cases hj : j < zs.length
  · rw [getD_append_lt _ _ hj]; exact h j
  · rw [getD_append_ge _ _ (by omega)]
    by_cases e : j - zs.length = 0
    · rw [e]; simpa using ⟨h0, h1⟩
    · rw [getD_end _ (by simp; omega)]; decide
theorem getD_take (zs : List Int) (n j : Nat) : (zs.take n).getD j 0 = if j < n then zs.getD j 0 else 0 := by
  simp only [List.getD, List.getElem?_take]; split <;> simp
theorem dig_take {zs : List Int} (h : Dig zs) (n : Nat) : Dig (zs.take n) := by
  intro j; rw [getD_take]; split
  · exact h j
  · decide

theorem val_append (xs ys : List Int) : val (xs ++ ys) = val xs + pw xs.length * val ys := by
  induction xs with
  | nil => simp [val, pw_zero]
  | cons x xs ih => rw [List.cons_append, val, ih, val, List.length_cons, pw_succ, Int.mul_add, Int.mul_assoc]; omega
theorem val_snoc (zs : List Int) (z : Int) : val (zs ++ [z]) = val zs + pw zs.length * z := by
  rw [val_append]; simp [val]
theorem val_range {zs : List Int} (h : Dig zs) : 0 ≤ val zs ∧ val zs < pw zs.length := by
  induction zs with
  | nil => rw [val, List.length_nil, pw_zero]; decide
  | cons z zs ih =>
    obtain ⟨h0, h1⟩ := dig_head h
    obtain ⟨i0, i1⟩ := ih (dig_tail h)
    rw [val, List.length_cons, pw_succ]
    omega
theorem take_snoc (zs : List Int) {k : Nat} (h : k < zs.length) : zs.take (k + 1) = zs.take k ++ [zs.getD k 0] := by
  rw [List.take_succ_eq_append_getElem h]; simp [List.getD, h]
theorem val_take_succ (zs : List Int) (k : Nat) : val (zs.take (k + 1)) = val (zs.take k) + pw k * zs.getD k 0 := by
  by_cases h : k < zs.length
  · rw [take_snoc zs h, val_snoc, List.length_take, Nat.min_eq_left (by omega)]
  · rw [List.take_of_length_le (by omega), List.take_of_length_le (by omega), getD_end _ (by omega)]; omega
theorem val_split (zs : List Int) (k : Nat) : val zs = val (zs.take k) + pw (zs.take k).length * val (zs.drop k) := by
  rw [← val_append, List.take_append_drop]
theorem val_take_end {zs : List Int} {n m : Nat} (hnm : n ≤ m) (h : ∀ j, n ≤ j → j < m → zs.getD j 0 = 0) : val (zs.take m) = val (zs.take n) := by
  induction m with
  | zero => obtain rfl : n = 0 := by omega
            rfl
  | succ m ih =>
    by_cases e : n = m + 1
    · rw [e]
    · rw [val_take_succ, h m (by omega) (by omega), ih (by omega) (fun j h1 h2 => h j h1 (by omega))]; omega
/-- Trimmed digits stand for the same number. -/
theorem val_trim {zs : List Int} {n : Nat} (hn : n ≤ zs.length) (h : ∀ j, n ≤ j → j < zs.length → zs.getD j 0 = 0) : val (zs.take n) = val zs := by
  have := val_take_end (zs := zs) (n := n) (m := zs.length) hn h
  rw [List.take_length] at this
  exact this.symm
theorem canon_take {zs : List Int} {n : Nat} (hn : n ≤ zs.length) (h : n = 0 ∨ zs.getD (n - 1) 0 ≠ 0) : Canon (zs.take n) := by
  rcases h with rfl | h
  · left; rfl
  · by_cases e : n = 0
    · subst e; left; rfl
    · right
      rw [List.length_take, Nat.min_eq_left hn, getD_take, if_pos (by omega)]; exact h
/-- Canonical digits: the number is at least the power of the last place. -/
theorem canon_low {zs : List Int} (h : Dig zs) (hc : Canon zs) (hne : zs ≠ []) : pw (zs.length - 1) ≤ val zs := by
  have hl : 0 < zs.length := List.length_pos_iff.2 hne
  rcases hc with hc | hc
  · exact absurd hc hne
  · have e : zs = zs.take (zs.length - 1) ++ [zs.getD (zs.length - 1) 0] := by
      rw [← take_snoc zs (by omega), Nat.sub_add_cancel hl, List.take_length]
    have hv : val zs = val (zs.take (zs.length - 1)) + pw (zs.length - 1) * zs.getD (zs.length - 1) 0 := by
      have := val_take_succ zs (zs.length - 1)
      rw [Nat.sub_add_cancel hl, List.take_length] at this
      exact this
    have h1 := (val_range (dig_take h (zs.length - 1))).1
    have h2 := (h (zs.length - 1)).1
    have h3 : 1 ≤ zs.getD (zs.length - 1) 0 := by omega
    have h4 : pw (zs.length - 1) * 1 ≤ pw (zs.length - 1) * zs.getD (zs.length - 1) 0 := Int.mul_le_mul_of_nonneg_left h3 (Int.le_of_lt (pw_pos _))
    omega
theorem canon_zero {zs : List Int} (h : Dig zs) (hc : Canon zs) : val zs = 0 ↔ zs = [] := by
  constructor
  · intro e
    by_cases hne : zs = []
    · exact hne
    · have := canon_low h hc hne; have := pw_pos (zs.length - 1); omega
  · rintro rfl; rfl
/-- Fewer digits, a lesser number. -/
theorem len_lt {xs ys : List Int} (hx : Dig xs) (hy : Dig ys) (cy : Canon ys) (h : xs.length < ys.length) : val xs < val ys := by
  have h1 := (val_range hx).2
  have h2 := canon_low hy cy (by intro e; rw [e] at h; simp at h)
  have h3 : pw xs.length ≤ pw (ys.length - 1) := pw_mono (by omega)
  omega
theorem len_le_of_val {xs ys : List Int} (hx : Dig xs) (hy : Dig ys) (cx : Canon xs) (h : val xs ≤ val ys) : xs.length ≤ ys.length := by
  by_cases e : xs.length ≤ ys.length
  · exact e
  · have := len_lt hy hx cx (by omega); omega
/-- The first unlike digit from above decides. -/
theorem digit_lt {xs ys : List Int} (hx : Dig xs) (hy : Dig ys) (he : xs.length = ys.length) {i : Nat} (hi : i < xs.length) (hs : ∀ j, i < j → xs.getD j 0 = ys.getD j 0) (h : xs.getD i 0 < ys.getD i 0) : val xs < val ys := by
  have key : ∀ m, i < m → m ≤ xs.length → val (xs.take m) < val (ys.take m) := by
    intro m hm hml
    induction m with
    | zero => omega
    | succ m ih =>
      rw [val_take_succ, val_take_succ]
      by_cases e : m = i
      · subst e
        have h1 := (val_range (dig_take hx m)).2
        have h2 := (val_range (dig_take hy m)).1
        rw [List.length_take, Nat.min_eq_left (by omega)] at h1
        have h3 : pw m * (xs.getD m 0 + 1) ≤ pw m * ys.getD m 0 := Int.mul_le_mul_of_nonneg_left (by omega) (Int.le_of_lt (pw_pos _))
        rw [Int.mul_add, Int.mul_one] at h3
        omega
      · have := ih (by omega) (by omega)
        rw [hs m (by omega)]; omega
  have := key xs.length hi (Nat.le_refl _)
  rw [List.take_length, he, List.take_length] at this
  exact this
theorem digits_eq {xs ys : List Int} (he : xs.length = ys.length) (hs : ∀ j, j < xs.length → xs.getD j 0 = ys.getD j 0) : xs = ys := by
  apply List.ext_getElem he
  intro j h1 h2
  have := hs j h1
  simpa [List.getD, h1, h2] using this
theorem dg_def (zs : List Int) (j : Nat) : dg zs j = zs.getD j 0 := rfl
theorem dg_end {zs : List Int} {j : Nat} (h : zs.length ≤ j) : dg zs j = 0 := getD_end zs h
theorem dg_ok {zs : List Int} (h : Dig zs) (j : Nat) : 0 ≤ dg zs j ∧ dg zs j < 65536 := h j
theorem dg_take {zs : List Int} {n j : Nat} (h : j < n) : dg (zs.take n) j = dg zs j := by rw [dg_def, getD_take, if_pos h]; rfl
theorem dg_snoc_lt {zs : List Int} {z : Int} {j : Nat} (h : j < zs.length) : dg (zs ++ [z]) j = dg zs j := getD_append_lt zs [z] h
theorem dg_snoc_at (zs : List Int) (z : Int) : dg (zs ++ [z]) zs.length = z := by rw [dg_def, getD_append_ge _ _ (Nat.le_refl _)]; simp
end Go.Proofs.Ytlpenfganhaclaa
