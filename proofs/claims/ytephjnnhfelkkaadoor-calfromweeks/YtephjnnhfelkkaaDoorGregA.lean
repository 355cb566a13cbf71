/-
  The calendar in plain numbers: which years have a day more (lpB, lp), how long a month is (mlen), the days ahead of a month (cum), of a year (ahead, firstD), which dates there are (isD), a date's day (dayOf), what is told of it (dayV, dayE); that a day has one date; what tdiv and tmod are; the program's own table of lengths (Tab). No conditions.
-/
import Derived.Test.YtephjnnhfelkkaaDoorRows
import Derived.Test.YtephjnnhfelkkaaDoorVcX
import Derived.Lib.LaidTab
namespace Go.Proofs.YtephjnnhfelkkaaDoor
open Go.RowKit

def lpB (y : Int) : Bool := decide (y % 4 = 0 ∧ y % 100 ≠ 0 ∨ y % 400 = 0)
def lp (y : Int) : Int := if lpB y = true then 1 else 0
def tabL : List Int := [31, 28, 31, 30, 31, 30, 31, 31, 30, 31, 30, 31]
def mlen (y m : Int) : Int := if m < 1 ∨ 12 < m then 0 else if m = 2 then 28 + lp y else tabL.getD (m - 1).toNat 0
def cum (y m : Int) : Int := if m ≤ 2 then 31 * (m - 1) else (153 * (m - 3) + 2) / 5 + 59 + lp y
def ahead (y : Int) : Int := 365 * y + (y + 3) / 4 - (y + 99) / 100 + (y + 399) / 400
def firstD (y : Int) : Int := ahead y - 678941
def isD (y m d : Int) : Bool := decide (1 ≤ d ∧ d ≤ mlen y m)
def dayOf (y m d : Int) : Int := firstD y + cum y m + d - 1
def inB (n : Int) : Bool := decide (-1099511627776 ≤ n ∧ n ≤ 1099511627776)
def dayE (y m d : Int) : Int := if isD y m d = true then (if inB (dayOf y m d) = true then 0 else 2) else 5
def dayV (y m d : Int) : Int := if isD y m d = true then (if inB (dayOf y m d) = true then dayOf y m d else 0) else 0

theorem lpB_iff {y : Int} : lpB y = true ↔ (y % 4 = 0 ∧ y % 100 ≠ 0 ∨ y % 400 = 0) := by unfold lpB; exact decide_eq_true_iff
theorem lpB_no {y : Int} : lpB y = false ↔ ¬ (y % 4 = 0 ∧ y % 100 ≠ 0 ∨ y % 400 = 0) := by unfold lpB; exact decide_eq_false_iff_not
theorem lp_yes {y : Int} (h : lpB y = true) : lp y = 1 := by unfold lp; rw [if_pos h]
theorem lp_no {y : Int} (h : lpB y = false) : lp y = 0 := by unfold lp; rw [h]; rfl
theorem lp_or (y : Int) : lp y = 0 ∨ lp y = 1 := by
  cases h : lpB y with
  | true => exact .inr (lp_yes h)
  | false => exact .inl (lp_no h)
theorem lpB_mod (y : Int) : lpB (y % 400) = lpB y := by
  cases h : lpB y with
  | true => rw [lpB_iff] at h ⊢; omega
  | false => rw [lpB_no] at h ⊢; omega
theorem lp_mod (y : Int) : lp (y % 400) = lp y := by unfold lp; rw [lpB_mod]
theorem mlen_mod (y m : Int) : mlen (y % 400) m = mlen y m := by unfold mlen; rw [lp_mod]
theorem months {m : Int} (h1 : 1 ≤ m) (h2 : m ≤ 12) : m = 1 ∨ m = 2 ∨ m = 3 ∨ m = 4 ∨ m = 5 ∨ m = 6 ∨ m = 7 ∨ m = 8 ∨ m = 9 ∨ m = 10 ∨ m = 11 ∨ m = 12 := by omega
theorem mlen_out {y m : Int} (h : m < 1 ∨ 12 < m) : mlen y m = 0 := by unfold mlen; rw [if_pos h]
theorem mlen_two (y : Int) : mlen y 2 = 28 + lp y := by unfold mlen; rfl
theorem mlen_tab {y m : Int} (h1 : 1 ≤ m) (h2 : m ≤ 12) (h : m ≠ 2) : mlen y m = tabL.getD (m - 1).toNat 0 := by unfold mlen; rw [if_neg (by omega), if_neg h]
theorem cum_next {y m : Int} (h1 : 1 ≤ m) (h2 : m ≤ 12) : cum y (m + 1) = cum y m + mlen y m := by
  rcases months h1 h2 with h | h | h | h | h | h | h | h | h | h | h | h <;> subst h <;> simp [cum, mlen, tabL] <;> omega
theorem mlen_le (y m : Int) : 0 ≤ mlen y m ∧ mlen y m ≤ 31 := by
  by_cases h : m < 1 ∨ 12 < m
  · rw [mlen_out h]; omega
  · have hl := lp_or y
    rcases months (m := m) (by omega) (by omega) with h | h | h | h | h | h | h | h | h | h | h | h <;> subst h <;> simp [mlen, tabL] <;> omega
theorem mlen_pos {y m : Int} (h1 : 1 ≤ m) (h2 : m ≤ 12) : 28 ≤ mlen y m := by
  have hl := lp_or y
  rcases months h1 h2 with h | h | h | h | h | h | h | h | h | h | h | h <;> subst h <;> simp [mlen, tabL] <;> omega
theorem mlen_month {y m d : Int} (h : 1 ≤ d) (k : d ≤ mlen y m) : 1 ≤ m ∧ m ≤ 12 := by
  by_cases c : m < 1 ∨ 12 < m
  · rw [mlen_out c] at k; omega
  · omega
theorem cum_one (y : Int) : cum y 1 = 0 := by unfold cum; rfl
theorem cum_13 (y : Int) : cum y 13 = 365 + lp y := by unfold cum; simp
theorem cum_12 (y : Int) : cum y 12 = 334 + lp y := by unfold cum; simp
theorem cum_le {y m : Int} (h1 : 1 ≤ m) (h2 : m ≤ 13) : 0 ≤ cum y m ∧ cum y m ≤ 366 := by
  have hl := lp_or y
  unfold cum; split <;> omega
theorem cum_up {y m n : Int} (h1 : 1 ≤ m) (h2 : m < n) (h3 : n ≤ 13) : cum y (m + 1) ≤ cum y n := by
  have hl := lp_or y
  unfold cum; split <;> split <;> omega
theorem isD_iff {y m d : Int} : isD y m d = true ↔ 1 ≤ d ∧ d ≤ mlen y m := by unfold isD; exact decide_eq_true_iff
theorem isD_no {y m d : Int} : isD y m d = false ↔ ¬ (1 ≤ d ∧ d ≤ mlen y m) := by unfold isD; exact decide_eq_false_iff_not
theorem inB_iff {n : Int} : inB n = true ↔ -1099511627776 ≤ n ∧ n ≤ 1099511627776 := by unfold inB; exact decide_eq_true_iff
theorem inB_no {n : Int} : inB n = false ↔ ¬ (-1099511627776 ≤ n ∧ n ≤ 1099511627776) := by unfold inB; exact decide_eq_false_iff_not
theorem first_next (y : Int) : firstD (y + 1) = firstD y + 365 + lp y := by
  unfold firstD ahead
  cases h : lpB y with
  | true => rw [lp_yes h]; rw [lpB_iff] at h; omega
  | false => rw [lp_no h]; rw [lpB_no] at h; omega
theorem first_up {y z : Int} (h : y < z) : firstD (y + 1) ≤ firstD z := by
  by_cases c : z = y + 1
  · rw [c]; omega
  · unfold firstD ahead; omega
theorem first_cycle (y : Int) : firstD y = -678941 + y / 400 * 146097 + ahead (y % 400) := by unfold firstD ahead; omega
theorem first_400 (y : Int) : firstD (y + 400) = firstD y + 146097 := by unfold firstD ahead; omega
theorem lp_400 (y : Int) : lp (y + 400) = lp y := by rw [← lp_mod (y + 400), ← lp_mod y]; congr 1; omega
theorem mlen_400 (y m : Int) : mlen (y + 400) m = mlen y m := by unfold mlen; rw [lp_400]
theorem cum_400 (y m : Int) : cum (y + 400) m = cum y m := by unfold cum; rw [lp_400]
theorem cum_mod (y m : Int) : cum (y % 400) m = cum y m := by unfold cum; rw [lp_mod]
theorem day_400 (y m d : Int) : dayOf (y + 400) m d = dayOf y m d + 146097 := by unfold dayOf; rw [first_400, cum_400]; omega
/-- A day of a year is in that year. -/
theorem day_in {y m d : Int} (h : isD y m d = true) : firstD y ≤ dayOf y m d ∧ dayOf y m d < firstD (y + 1) := by
  obtain ⟨h1, h2⟩ := isD_iff.1 h
  obtain ⟨m1, m2⟩ := mlen_month h1 h2
  have hc := cum_next (y := y) m1 m2
  have h0 := cum_le (y := y) m1 (by omega)
  have hn := first_next y
  have h13 := cum_13 y
  unfold dayOf
  by_cases c : m = 12
  · subst c; rw [show (12 : Int) + 1 = 13 from rfl] at hc; omega
  · have := cum_up (y := y) m1 (show m < 13 by omega) (by omega); omega
/-- A day has one date. -/
theorem one_date {y m d y' m' d' : Int} (h : isD y m d = true) (k : isD y' m' d' = true) (e : dayOf y m d = dayOf y' m' d') : y = y' ∧ m = m' ∧ d = d' := by
  have hi := day_in h
  have ki := day_in k
  have ey : y = y' := by
    rcases Int.lt_trichotomy y y' with c | c | c
    · have := first_up c; omega
    · exact c
    · have := first_up c; omega
  subst ey
  obtain ⟨h1, h2⟩ := isD_iff.1 h
  obtain ⟨m1, m2⟩ := mlen_month h1 h2
  obtain ⟨k1, k2⟩ := isD_iff.1 k
  obtain ⟨n1, n2⟩ := mlen_month k1 k2
  have hc := cum_next (y := y) m1 m2
  have kc := cum_next (y := y) n1 n2
  unfold dayOf at e
  have em : m = m' := by
    rcases Int.lt_trichotomy m m' with c | c | c
    · have := cum_up (y := y) m1 c (by omega); omega
    · exact c
    · have := cum_up (y := y) n1 c (by omega); omega
  subst em
  exact ⟨rfl, rfl, by omega⟩
theorem year_far {y m d : Int} (h : isD y m d = true) (hy : y < -8589934592 ∨ 8589934592 < y) : inB (dayOf y m d) = false := by
  have hi := day_in h
  rw [inB_no]
  unfold firstD ahead at hi
  omega
theorem dayE_bad {y m d : Int} (h : isD y m d = false) : dayE y m d = 5 ∧ dayV y m d = 0 := by unfold dayE dayV; rw [h]; exact ⟨rfl, rfl⟩
theorem dayE_far {y m d : Int} (h : isD y m d = true) (k : inB (dayOf y m d) = false) : dayE y m d = 2 ∧ dayV y m d = 0 := by unfold dayE dayV; rw [h, k]; exact ⟨rfl, rfl⟩
theorem dayE_ok {y m d : Int} (h : isD y m d = true) (k : inB (dayOf y m d) = true) : dayE y m d = 0 ∧ dayV y m d = dayOf y m d := by unfold dayE dayV; rw [h, k]; exact ⟨rfl, rfl⟩
/-- The year of a cycle, guessed by years of 366 days. -/
theorem year_guess {n : Int} (h0 : 0 ≤ n) (h1 : n ≤ 146096) : ahead (n / 366) ≤ n ∧ n < ahead (n / 366 + 2) := by unfold ahead; omega
theorem ahead_400 : ahead 400 = 146097 := by decide
theorem ahead_up {y z : Int} (h : y ≤ z) : ahead y ≤ ahead z := by
  by_cases c : y = z
  · rw [c]; omega
  · have := first_up (y := y) (z := z) (by omega)
    have := first_next y
    have := lp_or y
    unfold firstD at *
    omega
/-! ### tdiv and tmod -/
theorem tmod_zero (y k : Int) : y.tmod k = 0 ↔ y % k = 0 := by
  rw [← Int.dvd_iff_tmod_eq_zero, ← Int.dvd_iff_emod_eq_zero]
theorem tdiv_neg {n d : Int} (hn : n < 0) : n.tdiv d = -((-n) / d) ∧ n.tmod d = -((-n) % d) := by
  constructor
  · have h2 : (-n).tdiv d = (-n) / d := Int.tdiv_eq_ediv_of_nonneg (by omega)
    rw [Int.neg_tdiv] at h2; omega
  · have h2 : (-n).tmod d = (-n) % d := Int.tmod_eq_emod_of_nonneg (by omega)
    rw [Int.neg_tmod] at h2; omega
theorem floor_is {n d q r : Int} (hd : 0 < d) (h : n = d * q + r) (h0 : 0 ≤ r) (h1 : r < d) : n / d = q ∧ n % d = r := by
  subst h
  rw [Int.add_comm, Int.add_mul_ediv_left _ _ (Int.ne_of_gt hd), Int.add_mul_emod_self_left, Int.ediv_eq_zero_of_lt h0 h1, Int.emod_eq_of_lt h0 h1]
  omega
theorem tdiv_low {n d : Int} (hd : 0 < d) (h : n.tmod d < 0) : n / d = n.tdiv d - 1 ∧ n % d = n.tmod d + d := by
  have e := Int.mul_tdiv_add_tmod n d
  by_cases c : 0 ≤ n
  · have := Int.tmod_nonneg d c; omega
  · have hm := (tdiv_neg (n := n) (d := d) (by omega)).2
    have b := Int.emod_lt_of_pos (-n) hd
    have b0 := Int.emod_nonneg (-n) (show d ≠ 0 by omega)
    refine floor_is hd ?_ (by omega) (by omega)
    rw [Int.mul_sub]; omega
theorem tdiv_high {n d : Int} (hd : 0 < d) (h : 0 ≤ n.tmod d) : n / d = n.tdiv d ∧ n % d = n.tmod d := by
  have e := Int.mul_tdiv_add_tmod n d
  have b := Int.tmod_lt_of_pos n hd
  exact floor_is hd (by omega) h b
theorem tdiv_le {n d : Int} (hd : 0 < d) : (0 ≤ n → 0 ≤ n.tdiv d ∧ n.tdiv d ≤ n) ∧ (n ≤ 0 → n ≤ n.tdiv d ∧ n.tdiv d ≤ 0) := by
  constructor
  · intro c
    rw [Int.tdiv_eq_ediv_of_nonneg c]
    exact ⟨Int.ediv_nonneg c (by omega), Int.ediv_le_self d c⟩
  · intro c
    by_cases z : n = 0
    · subst z; simp
    · rw [(tdiv_neg (by omega)).1]
      have q0 : 0 ≤ (-n) / d := Int.ediv_nonneg (by omega) (by omega)
      have q1 : (-n) / d ≤ -n := Int.ediv_le_self d (by omega)
      omega

theorem tmod_in {n d : Int} (hd : 0 < d) : -d < n.tmod d ∧ n.tmod d < d := by
  refine ⟨?_, Int.tmod_lt_of_pos n hd⟩
  by_cases c : 0 ≤ n
  · have := Int.tmod_nonneg d c; omega
  · have hm := (tdiv_neg (n := n) (d := d) (by omega)).2
    have b := Int.emod_lt_of_pos (-n) hd
    omega
theorem ahead_in {y : Int} (h0 : 0 ≤ y) (h1 : y ≤ 400) : 0 ≤ ahead y ∧ ahead y ≤ 146097 := by unfold ahead; omega
theorem ahead_next (y : Int) : ahead (y + 1) = ahead y + 365 + lp y := by have := first_next y; unfold firstD at this; omega
theorem first_in {y : Int} (h0 : -1099511627777 ≤ y) (h1 : y ≤ 1099511627777) : -405000000000000 ≤ firstD y ∧ firstD y ≤ 405000000000000 := by unfold firstD ahead; omega
theorem cycle_is (c : Int) {r : Int} (m : Int) (h0 : 0 ≤ r) (h1 : r < 400) : mlen (c * 400 + r) m = mlen r m ∧ cum (c * 400 + r) m = cum r m ∧ firstD (c * 400 + r) = -678941 + c * 146097 + ahead r := by
  have e : (c * 400 + r) % 400 = r := by omega
  have q : (c * 400 + r) / 400 = c := by omega
  have a := mlen_mod (c * 400 + r) m
  have b := cum_mod (c * 400 + r) m
  have f := first_cycle (c * 400 + r)
  rw [e] at a b f
  rw [q] at f
  exact ⟨a.symm, b.symm, f⟩
theorem year_low (n : Int) : firstD ((n + 678941) * 400 / 146097 - 1) ≤ n := by unfold firstD ahead; omega
theorem year_in {y n : Int} (h : firstD y ≤ n) (k : n ≤ 1099511627776) : y ≤ 8589934592 := by unfold firstD ahead at h; omega

/-! ### The program's table of lengths -/
def Tab (w : World) : Prop := ∀ i : Nat, i < 12 → w.cell? ⟨0, i, none⟩ = some (.int .i64 (tabL.getD i 0))
theorem Tab.later {w w' : World} (h : Tab w) (l : Later w w') : Tab w' := fun i hi =>
  (World.cell?_of_block (l.block 0 (World.block_lt_of_cell? w _ (h i hi)))).trans (h i hi)
theorem Tab.at {w : World} (h : Tab w) {j : Int} (h0 : 0 ≤ j) (h1 : j < 12) : w.cell? ⟨0, j.toNat, none⟩ = some (.int .i64 (tabL.getD j.toNat 0)) := h j.toNat (by omega)
section
variable {P : Program} {B i d : Nat} {lax : Bool} {ops : Array Oper} {Rs : Nat → Value → World → Prop} {K : St → World → Prop} {rest : List Nat} {st : St} {w : World} {ty : TypeId} {pos : String} {aft : Array Edge} {g : Option (Nat × Bool)}
/-- The address of an element of an array. -/
theorem s_idxA {t e : TypeId} {x ix : Operand} {b off len sz : Nat} {k : IntKind} {j : Int} (o : Nat) (ho : ops[i]? = some ⟨some d, .indexAddr t x ix, ty, pos, aft, g⟩) (hg : gok ops st g = true) (hk : known st ⟨some d, .indexAddr t x ix, ty, pos, aft, g⟩ = true)
    (hx : st.ev x = .v (.pointer (some ⟨b, off, none⟩))) (hi : st.ev ix = .v (.int k j)) (hu : P.underlying t = some (.array len e)) (hs : (P.info? e).map (·.size) = some sz) (h0 : 0 ≤ j) (h1 : j < len) (he : off + j.toNat * sz = o)
    (h : vOrd P B lax ops Rs K rest (st.put (some d) (.v (.pointer (some ⟨b, o, none⟩)))) w) : vOrd P B lax ops Rs K (i :: rest) st w := by
  subst he
  refine s_addr ho hg hk hx (fun w => ?_) h
  have ex : st.rho x = .pointer (some ⟨b, off, none⟩) := by rw [St.rho, hx]; rfl
  have ey : st.rho ix = .int k j := by rw [St.rho, hi]; rfl
  cases hp : P.info? e with
  | none => rw [hp] at hs; cases hs
  | some ii =>
    rw [hp] at hs
    simp only [Option.map_some, Option.some.injEq] at hs
    simp [execOp, ex, ey, Instr.indexAt, Instr.sureAddr, asIntOf, run_underlying hu w, h0, h1, sizeOf, typeInfo, hp, hs, addr_add]
end
/-! ### '==' of two Dates, and of two bools -/
def eqD (a b c x y z : Int) : Bool := decide (a = x ∧ b = y ∧ c = z)
theorem eqD_same (a b c : Int) : eqD a b c a b c = true := by simp [eqD]
theorem run_eql_date (a b c x y z : Int) (w : World) : (binOp .eql 40 (.agg #[.int .i64 a, .int .i64 b, .int .i64 c]) (.agg #[.int .i64 x, .int .i64 y, .int .i64 z])).run Tryd.prog w = .ok (.bool (eqD a b c x y z)) w := by
  unfold eqD
  by_cases h1 : a = x <;> by_cases h2 : b = y <;> by_cases h3 : c = z <;> simp [go_sem, h1, h2, h3]
theorem run_eql_bool (a b : Bool) (w : World) : (binOp .eql 4 (.bool a) (.bool b)).run Tryd.prog w = .ok (.bool (a == b)) w := by
  cases a <;> cases b <;> simp [go_sem]
end Go.Proofs.YtephjnnhfelkkaaDoor
