/-
 The contracts of the package wide's small functions: Of, Int, Cmp, below, bitsOf, ofBits, size, signed, nextDown. No conditions.
-/
import Derived.Test.YthihioakjpmnbaaGreatRefB
import Derived.Test.YthihioakjpmnbaaGreatRefA
namespace Go.Proofs.YthihioakjpmnbaaGreat
open Go.RowKit

theorem hid {p : Prop} (h : p) : Hid p := h
/-- Is it below 0? -/
def sg (z : Int) : Bool := decide (z < 0)
/-- Without its sign. -/
def ab (z : Int) : Int := if z < 0 then -z else z
theorem sg_neg {z : Int} (h : z < 0) : sg z = true := by unfold sg; simpa using h
theorem sg_pos {z : Int} (h : 0 ≤ z) : sg z = false := by unfold sg; simpa using h
theorem ab_neg {z : Int} (h : z < 0) : ab z = -z := by unfold ab; rw [if_pos h]
theorem ab_pos {z : Int} (h : 0 ≤ z) : ab z = z := by unfold ab; rw [if_neg (by omega)]
theorem ab_opp (z : Int) : ab (-z) = ab z := by unfold ab; split <;> split <;> omega
theorem ab_nonneg (z : Int) : 0 ≤ ab z := by unfold ab; split <;> omega
/-- The digits s, with the sign that z has, stand, in w, for the number z; there are at most n of them. -/
def BigIs (n : Nat) (w : World) (s : Value) (z : Int) : Prop := ∃ ds, Digs w s ds ∧ Dig ds ∧ Canon ds ∧ ds.length ≤ n ∧ val ds = ab z
theorem BigIs.later {n : Nat} {w w' : World} {s : Value} {z : Int} (h : BigIs n w s z) (hb : Below w.heap.size w w') : BigIs n w' s z := by
 obtain ⟨ds, h1, h2⟩ := h
 exact ⟨ds, h1.later hb, h2⟩
theorem BigIs.wide {n m : Nat} {w : World} {s : Value} {z : Int} (h : BigIs n w s z) (hm : n ≤ m) : BigIs m w s z := by
 obtain ⟨ds, h1, h2, h3, h4, h5⟩ := h
 exact ⟨ds, h1, h2, h3, by omega, h5⟩
theorem BigIs.opp {n : Nat} {w : World} {s : Value} {z : Int} (h : BigIs n w s z) : BigIs n w s (-z) := by
 obtain ⟨ds, h1, h2, h3, h4, h5⟩ := h
 exact ⟨ds, h1, h2, h3, h4, by rw [ab_opp]; exact h5⟩
theorem BigIs.eq {n : Nat} {w : World} {s : Value} {z z' : Int} (h : BigIs n w s z) (e : z = z') : BigIs n w s z' := e ▸ h
/-- The digits' value, its length and what they are. -/
theorem BigIs.open {n : Nat} {w : World} {a : Option Addr} {l c : Nat} {z : Int} (h : BigIs n w (.slice a l c) z) : ∃ ds, Digs w (.slice a l c) ds ∧ Dig ds ∧ Canon ds ∧ ds.length ≤ n ∧ val ds = ab z ∧ l = ds.length := by
 obtain ⟨ds, h1, h2, h3, h4, h5⟩ := h
 obtain ⟨a', c', e⟩ := h1.form
 obtain ⟨rfl, rfl, rfl⟩ : a = a' ∧ l = ds.length ∧ c = c' := by simpa using e
 exact ⟨ds, h1, h2, h3, h4, h5, rfl⟩
theorem BigIs.len {n : Nat} {w : World} {a : Option Addr} {l c : Nat} {z : Int} (h : BigIs n w (.slice a l c) z) : l ≤ n ∧ (l = 0 ↔ z = 0) := by
 obtain ⟨ds, h1, h2, h3, h4, h5, rfl⟩ := h.open
 refine ⟨h4, ?_⟩
 have hz := canon_zero h2 h3
 rw [h5] at hz
 constructor
 ·intro e
  have := hz.2 (List.eq_nil_of_length_eq_zero e)
  unfold ab at this; split at this <;> omega
 ·rintro rfl
  rw [hz.1 (by unfold ab; simp)]; rfl
theorem Digs.put {w : World} {v : Value} {zs : List Int} (h : Digs w v zs) {r : Nat} {u0 u1 : Value} (t : Two w r u0 u1) (n0 : NoInt u0) (n1 : NoInt u1) (x y : Value) : Digs ((w.setCell ⟨r, 0, none⟩ x).setCell ⟨r, 1, none⟩ y) v zs :=
 (h.store t.1 n0 x).store (by rw [World.cell?_setCell_other _ _ _ _ (by simp)]; exact t.2.1) n1 y
theorem BigIs.put {n : Nat} {w : World} {s : Value} {z : Int} (h : BigIs n w s z) {r : Nat} {u0 u1 : Value} (t : Two w r u0 u1) (n0 : NoInt u0) (n1 : NoInt u1) (x y : Value) : BigIs n ((w.setCell ⟨r, 0, none⟩ x).setCell ⟨r, 1, none⟩ y) s z := by
 obtain ⟨ds, h1, h2⟩ := h
 exact ⟨ds, h1.put t n0 n1 x y, h2⟩
theorem BigIs.drew {n : Nat} {w : World} {s : Value} {z : Int} (h : BigIs n w s z) : BigIs n w.drew s z := h

/-- make([]int, m): so many noughts in a new block. -/
theorem made (m : Nat) (hm : m ≤ 1000000000) (W : World) : ∃ W', (Instr.makeSlice 34 (.int .i64 (m : Int)) (.int .i64 (m : Int))).run Tryz.prog W = .ok (.slice (some ⟨W.heap.size, 0, none⟩) m m) W' ∧
  (∀ j, j < m → W'.cell? ⟨W.heap.size, j, none⟩ = some (.int .i64 0) ∧ W'.frozen? ⟨W.heap.size, j, none⟩ = false) ∧ Below W.heap.size W W' ∧ W'.heap.size = W.heap.size + 1 := by
 obtain ⟨i0, hi0, hz0, hz1, hz2⟩ : ∃ i, Tryz.prog.info? 3 = some i ∧ i.zero = some (.int .i64 0) ∧ i.size = 1 ∧ i.bytes = 8 := by
  have h := Tryz.infoInt
  cases hi : Tryz.prog.info? 3 with
  | none => rw [hi] at h; simp at h
  | some i => rw [hi] at h; simp at h; exact ⟨i, rfl, h.1, h.2.1, h.2.2⟩
 have hr := run_make (P := Tryz.prog) W 34 3 i0 (.int .i64 0) Tryz.underlying34 hi0 hz0 .i64 .i64 (m : Int) (m : Int) (by omega) (by omega) (by rw [hz2]; omega) (by omega)
 refine ⟨_, hr, fun j hj => ?_, (Below.refl _ _).alloc (Nat.le_refl _) _, by simp⟩
 rw [hz1]
 refine ⟨?_, by simp⟩
 rw [World.cell?_alloc_new]
 have e : (madeCells (Value.cells (.int .i64 0)) ((m : Int).toNat * 1)).toList = List.replicate m (.int .i64 0) := by
  have := toList_madeCells_one (.int .i64 0) ((m : Int).toNat * 1)
  simpa [Value.cells] using this
 rw [← Array.getElem?_toList, e, List.getElem?_replicate, if_pos hj]

theorem low16 (x : Int) (h0 : 0 ≤ x) (h1 : x < 18446744073709551616) : bits .and .u64 x 65535 = x % 65536 := by
 rw [u64_and _ _ h0 h1 (by decide) (by decide)]
 show ((x.toNat &&& 65535 : Nat) : Int) = _
 rw [nat_mask16]; omega

/-- The digits of a word. -/
def wordDs (n : Int) : List Int := [n % 65536, n / 65536 % 65536, n / 4294967296 % 65536, n / 281474976710656]
theorem wordDs_ok (n : Int) (h0 : 0 ≤ n) (h1 : n < 18446744073709551616) : Dig (wordDs n) ∧ val (wordDs n) = n := by
 constructor
 ·intro j
  match j with
  | 0 => simp [wordDs]; omega
  | 1 => simp [wordDs]; omega
  | 2 => simp [wordDs]; omega
  | 3 => simp [wordDs]; omega
  | (k + 4) => simp [wordDs]
 ·simp only [wordDs, val]; omega

set_option maxRecDepth 100000 in
set_option maxHeartbeats 1000000 in
theorem word_any (n : Int) (h0 : 0 ≤ n) (h1 : n < 18446744073709551616) (w : World) :
  Calls Tryz.prog 35 #[.int .u64 n] w fun e w' => ∃ a l c, e = .returned (.agg #[.bool false, .slice a l c]) ∧ BigIs 4 w' (.slice a l c) n ∧ Below w.heap.size w w' := by
 have b0 := low16 n h0 h1
 have b1 := low16 (n / 65536) (by omega) (by omega)
 have b2 := low16 (n / 4294967296) (by omega) (by omega)
 obtain ⟨dw, vw⟩ := wordDs_ok n h0 h1
 go_enter Tryz.func35, Tryz.ntmps35
 go_wp2_with fail
 refine (trim_b (zs := wordDs n) ⟨some ⟨w.heap.size + 1, 0, none⟩, w.heap.size + 1, 0, 4, rfl, Nat.le_refl _, by unfold maxLen; decide, .inr rfl, ?_⟩ (by simp [wordDs])).mono ?_
 ·intro j hj
  have hj' : j < 4 := hj
  rcases (show j = 0 ∨ j = 1 ∨ j = 2 ∨ j = 3 by omega) with rfl | rfl | rfl | rfl <;> simp [go_sem, wordDs, dg]
 rintro e w1 ⟨k, v', hk, hzr, hcn, rfl, hdg, hb1⟩
 obtain ⟨a', c', rfl⟩ := hdg.form
 obtain ⟨l, hl⟩ : ∃ l, Hid (l = (List.take k (wordDs n)).length) := ⟨_, rfl⟩
 rw [← hl.out] at hdg ⊢
 have tw := two_later hb1 (b := w.heap.size) (u := .bool false) (v := .slice none 0 0) ⟨by simp [go_sem], by simp [go_sem], by simp [go_sem], by simp [go_sem]⟩
 have TW := hid tw
 obtain ⟨⟨p1, p2, p3, p4⟩, p5⟩ := tw
 have x1 := bthen (B := w.heap.size) (w := w) (by go_grown) (by go_size) hb1
 have hz1 := x1.size
 clear hb1
 go_wp2_with fail
 refine bodyPost_ret (v := .agg #[.bool false, .slice a' l c']) (by simp [results, Tryz.results35, go_sem, *]) rfl ⟨_, _, _, rfl, ?_, ?_⟩
 ·refine BigIs.put ⟨_, hdg, dig_take dw k, canon_take hk hcn, ?_, ?_⟩ TW.out.1 (noInt_bool _) (noInt_slice _ _ _) _ _
  ·rw [List.length_take]; simp [wordDs]; omega
  ·rw [val_trim hk hzr, vw, ab_pos h0]
 ·go_grown

set_option maxRecDepth 100000 in
set_option maxHeartbeats 1000000 in
theorem neg_any {n : Nat} {a : Option Addr} {l c : Nat} {z : Int} {w : World} (h : BigIs n w (.slice a l c) z) :
  Calls Tryz.prog 46 #[.agg #[.bool (sg z), .slice a l c]] w fun e w' => e = .returned (.agg #[.bool (sg (-z)), .slice a l c]) ∧ BigIs n w' (.slice a l c) (-z) ∧ Below w.heap.size w w' := by
 obtain ⟨-, hl⟩ := h.len
 have HB := hid h.opp
 clear h
 by_cases g1 : z < 0
 ·have s1 := sg_neg g1
  have s2 := sg_pos (z := -z) (by omega)
  clear hl
  go_enter Tryz.func46, Tryz.ntmps46
  go_wp2
  go_returns
  exact ⟨by first | rfl | rw [s2], HB.out.later (by go_grown), by go_grown⟩
 ·have s1 := sg_pos (z := z) (by omega)
  by_cases g2 : z = 0
  ·obtain rfl := hl.2 g2
   subst g2
   have HB0 := hid (HB.out.eq (show -(0 : Int) = 0 by omega))
   clear hl HB g1
   go_enter Tryz.func46, Tryz.ntmps46
   go_wp2
   go_returns
   exact ⟨by first | rfl | (rw [s1]; rfl), HB0.out.later (by go_grown), by go_grown⟩
  ·have s2 := sg_neg (z := -z) (by omega)
   have g3 : (0 : Int) < (l : Int) := by have : ¬ l = 0 := fun e => g2 (hl.1 e); omega
   have g4 : 0 < l := by omega
   clear hl
   go_enter Tryz.func46, Tryz.ntmps46
   go_wp2
   go_returns
   exact ⟨by first | rfl | (rw [s2]; rfl), HB.out.later (by go_grown), by go_grown⟩
end Go.Proofs.YthihioakjpmnbaaGreat

namespace Go.Proofs.YthihioakjpmnbaaGreat
open Go.RowKit

/-! ### Numbers of two words with a sign -/
/-- h is a word with a sign, l one without, and the number z is h times 2^64, and l. -/
def WideIs (h l z : Int) : Prop := -9223372036854775808 ≤ h ∧ h < 9223372036854775808 ∧ 0 ≤ l ∧ l < 18446744073709551616 ∧ z = h * 18446744073709551616 + l
theorem WideIs.range {h l z : Int} (k : WideIs h l z) : -170141183460469231731687303715884105728 ≤ z ∧ z < 170141183460469231731687303715884105728 := by
 obtain ⟨_, _, _, _, _⟩ := k; omega
theorem WideIs.same {h l h' l' z : Int} (k : WideIs h l z) (k' : WideIs h' l' z) : h = h' ∧ l = l' := by
 obtain ⟨_, _, _, _, _⟩ := k; obtain ⟨_, _, _, _, _⟩ := k'; omega
theorem WideIs.other {h l h' l' z z' : Int} (k : WideIs h l z) (k' : WideIs h' l' z') (n : z ≠ z') : ¬ (h = h' ∧ l = l') := by
 obtain ⟨_, _, _, _, _⟩ := k; obtain ⟨_, _, _, _, _⟩ := k'; omega
theorem WideIs.eq {h l z z' : Int} (k : WideIs h l z) (e : z = z') : WideIs h l z' := e ▸ k
theorem WideIs.sign {h l z : Int} (k : WideIs h l z) : h < 0 ↔ z < 0 := by
 obtain ⟨_, _, _, _, _⟩ := k; omega
theorem wide_0 : WideIs 0 0 0 := by unfold WideIs; omega
theorem LimbIs.eq {h l z z' : Int} (k : LimbIs h l z) (e : z = z') : LimbIs h l z' := e ▸ k
theorem limb_0 : LimbIs 0 0 0 := by unfold LimbIs; omega

/-- Does z fit? -/
def inW (z : Int) : Bool := decide (-170141183460469231731687303715884105728 ≤ z ∧ z < 170141183460469231731687303715884105728)
/-- What is answered of z: z, if it fits, and else 0 and ErrOver. -/
def fitV (z : Int) : Int := if inW z = true then z else 0
def fitE (z : Int) : Int := if inW z = true then 0 else 2
theorem inW_yes {z : Int} (h0 : -170141183460469231731687303715884105728 ≤ z) (h1 : z < 170141183460469231731687303715884105728) : inW z = true ∧ fitV z = z ∧ fitE z = 0 := by
 have : inW z = true := by unfold inW; rw [decide_eq_true_eq]; exact ⟨h0, h1⟩
 unfold fitV fitE; rw [if_pos this, if_pos this]; exact ⟨this, rfl, rfl⟩
theorem inW_no {z : Int} (h : ¬ (-170141183460469231731687303715884105728 ≤ z ∧ z < 170141183460469231731687303715884105728)) : inW z = false ∧ fitV z = 0 ∧ fitE z = 2 := by
 have : inW z = false := by unfold inW; rw [decide_eq_false_iff_not]; exact h
 unfold fitV fitE; rw [if_neg (by rw [this]; decide), if_neg (by rw [this]; decide)]; exact ⟨this, rfl, rfl⟩

/-! ### '==' and '!=' of two Wides, and of two Limbs -/
theorem run_eql_wide (a b c d : Int) (w : World) : (binOp .eql 26 (.agg #[.int .i64 a, .int .u64 b]) (.agg #[.int .i64 c, .int .u64 d])).run Tryz.prog w = .ok (.bool (eqL a b c d)) w := by
 unfold eqL
 by_cases h1 : a = c <;> by_cases h2 : b = d <;> simp [go_sem, h1, h2]
theorem run_neq_wide (a b c d : Int) (w : World) : (binOp .neq 26 (.agg #[.int .i64 a, .int .u64 b]) (.agg #[.int .i64 c, .int .u64 d])).run Tryz.prog w = .ok (.bool (!eqL a b c d)) w := by
 unfold eqL
 by_cases h1 : a = c <;> by_cases h2 : b = d <;> simp [go_sem, h1, h2]
theorem run_neq_limb (a b c d : Int) (w : World) : (binOp .neq 142 (.agg #[.int .u64 a, .int .u64 b]) (.agg #[.int .u64 c, .int .u64 d])).run Tryz.prog w = .ok (.bool (!eqL a b c d)) w := by
 unfold eqL
 by_cases h1 : a = c <;> by_cases h2 : b = d <;> simp [go_sem, h1, h2]
theorem eqW_same {a b c d z : Int} (h : WideIs a b z) (k : WideIs c d z) : eqL a b c d = true := by
 obtain ⟨rfl, rfl⟩ := h.same k; simp [eqL]
theorem eqW_other {a b c d z y : Int} (h : WideIs a b z) (k : WideIs c d y) (n : z ≠ y) : eqL a b c d = false := by
 have := h.other k n
 unfold eqL
 by_cases h1 : a = c <;> by_cases h2 : b = d <;> simp_all

/-! ### Bits -/
theorem bits_is {h l z : Int} (k : WideIs h l z) : LimbIs (h % 18446744073709551616) l (z % 340282366920938463463374607431768211456) := by
 obtain ⟨_, _, _, _, _⟩ := k; exact ⟨by omega, by omega, by omega, by omega, by omega⟩
/-- The number with a sign that has these bits. -/
def sgn (n : Int) : Int := if n < 170141183460469231731687303715884105728 then n else n - 340282366920938463463374607431768211456
theorem sgn_is {h l n : Int} (k : LimbIs h l n) : WideIs (wrap64 h) l (sgn n) := by
 obtain ⟨_, _, _, _, _⟩ := k
 unfold wrap64 sgn
 exact ⟨by omega, by omega, by omega, by omega, by split <;> omega⟩
set_option maxHeartbeats 400000 in
theorem bitsOf_any {h l z : Int} (k : WideIs h l z) (w : World) :
  Calls Tryz.prog 85 #[.agg #[.int .i64 h, .int .u64 l]] w fun e w' =>
   ∃ h' : Int, LimbIs h' l (z % 340282366920938463463374607431768211456) ∧ e = .returned (.agg #[.int .u64 h', .int .u64 l]) ∧ Below w.heap.size w w' := by
 have b := bits_is k
 obtain ⟨k1, k2, k3, k4, -⟩ := k
 go_enter Tryz.func85, Tryz.ntmps85
 go_wp2_with fail
 go_returns
 exact ⟨_, b, rfl, by go_grown⟩
set_option maxHeartbeats 400000 in
theorem ofBits_any {h l n : Int} (k : LimbIs h l n) (w : World) :
  Calls Tryz.prog 86 #[.agg #[.int .u64 h, .int .u64 l]] w fun e w' =>
   ∃ h' : Int, WideIs h' l (sgn n) ∧ e = .returned (.agg #[.int .i64 h', .int .u64 l]) ∧ Below w.heap.size w w' := by
 have K := sgn_is k
 obtain ⟨k1, k2, k3, k4, -⟩ := k
 go_enter Tryz.func86, Tryz.ntmps86
 go_wp2_with fail
 go_returns
 exact ⟨_, K, rfl, by go_grown⟩
set_option maxHeartbeats 400000 in
theorem below_any {h l z : Int} (k : WideIs h l z) (w : World) :
  Calls Tryz.prog 83 #[.agg #[.int .i64 h, .int .u64 l]] w fun e w' => e = .returned (.bool (sg z)) ∧ Below w.heap.size w w' := by
 have s : sg z = decide (h < 0) := by unfold sg; rw [decide_eq_decide]; exact k.sign.symm
 go_enter Tryz.func83, Tryz.ntmps83
 go_wp2_with fail
 go_returns
 exact ⟨by rw [s]; rfl, by go_grown⟩
set_option maxHeartbeats 400000 in
theorem wof_any (n : Int) (h0 : -9223372036854775808 ≤ n) (h1 : n ≤ 9223372036854775807) (w : World) :
  Calls Tryz.prog 53 #[.int .i64 n] w fun e w' => ∃ h l : Int, WideIs h l n ∧ e = .returned (.agg #[.int .i64 h, .int .u64 l]) ∧ Below w.heap.size w w' := by
 go_enter Tryz.func53, Tryz.ntmps53
 go_wp2_with fail
 go_returns
 exact ⟨_, _, by rw [IntKind.wrap_u64]; exact ⟨by omega, by omega, by omega, by omega, by omega⟩, rfl, by go_grown⟩
set_option maxHeartbeats 400000 in
theorem wcmp_any {ah al bh bl a b : Int} (ha : WideIs ah al a) (hb : WideIs bh bl b) (w : World) :
  Calls Tryz.prog 97 #[.agg #[.int .i64 ah, .int .u64 al], .agg #[.int .i64 bh, .int .u64 bl]] w fun e w' =>
   e = .returned (.int .i64 (cmpI a b)) ∧ Below w.heap.size w w' := by
 have qe := run_eql_wide
 by_cases hab : a = b
 ·subst hab
  have hq := eqW_same ha hb
  have hc : cmpI a a = 0 := cmpI_eq rfl
  go_enter Tryz.func97, Tryz.ntmps97
  go_wp2
  go_returns
  exact ⟨by first | rfl | (rw [hc]; rfl), by go_grown⟩
 ·have hq := eqW_other ha hb hab
  obtain ⟨a1, a2, a3, a4, a5⟩ := ha
  obtain ⟨b1, b2, b3, b4, b5⟩ := hb
  by_cases g1 : ah < bh
  ·have hc : cmpI a b = -1 := cmpI_lt (by omega)
   clear a5 b5
   go_enter Tryz.func97, Tryz.ntmps97
   go_wp2
   go_returns
   exact ⟨by first | rfl | (rw [hc]; rfl), by go_grown⟩
  by_cases g2 : ah = bh
  ·by_cases g3 : al < bl
   ·have hc : cmpI a b = -1 := cmpI_lt (by omega)
    clear a5 b5
    subst g2
    go_enter Tryz.func97, Tryz.ntmps97
    go_wp2
    go_returns
    exact ⟨by first | rfl | (rw [hc]; rfl), by go_grown⟩
   ·have hc : cmpI a b = 1 := cmpI_gt (by omega)
    clear a5 b5
    subst g2
    go_enter Tryz.func97, Tryz.ntmps97
    go_wp2
    go_returns
    exact ⟨by first | rfl | (rw [hc]; rfl), by go_grown⟩
  ·have hc : cmpI a b = 1 := cmpI_gt (by omega)
   clear a5 b5
   go_enter Tryz.func97, Tryz.ntmps97
   go_wp2
   go_returns
   exact ⟨by first | rfl | (rw [hc]; rfl), by go_grown⟩
theorem neg_mod {z : Int} (h0 : -170141183460469231731687303715884105728 ≤ z) (h : z < 0) : (0 - z % 340282366920938463463374607431768211456) % 340282366920938463463374607431768211456 = ab z := by
 unfold ab; rw [if_pos h]; omega
set_option maxHeartbeats 400000 in
theorem size_any {h l z : Int} (k : WideIs h l z) (w : World) :
  Calls Tryz.prog 81 #[.agg #[.int .i64 h, .int .u64 l]] w fun e w' =>
   ∃ h' l' : Int, LimbIs h' l' (ab z) ∧ e = .returned (.agg #[.int .u64 h', .int .u64 l']) ∧ Below w.heap.size w w' := by
 have kr := k.range
 go_enter Tryz.func81, Tryz.ntmps81
 go_wp2_with fail
 refine (bitsOf_any k _).mono ?_
 rintro e w1 ⟨h1, b1, rfl, hb1⟩
 obtain ⟨⟨p1, p2, p3, p4⟩, p5⟩ := two_later hb1 (b := w.heap.size) (u := .int .i64 h) (v := .int .u64 l) ⟨by simp [go_sem], by simp [go_sem], by simp [go_sem], by simp [go_sem]⟩
 obtain ⟨⟨q1, q2, q3, q4⟩, q5⟩ := two_later hb1 (b := w.heap.size + 1) (u := .int .u64 0) (v := .int .u64 0) ⟨by simp [go_sem], by simp [go_sem], by simp [go_sem], by simp [go_sem]⟩
 have x1 := bthen (B := w.heap.size) (w := w) (by go_grown) (by go_size) hb1
 have z1 := x1.size
 clear hb1
 go_wp2_with fail
 refine (below_any k _).mono ?_
 rintro e w2 ⟨rfl, hb2⟩
 obtain ⟨⟨r1, r2, r3, r4⟩, r5⟩ := two_later hb2 (b := w.heap.size + 1) (u := .int .u64 0) (v := .int .u64 0) ⟨by simp [go_sem, *], by simp [go_sem, *], by simp [go_sem, *], by simp [go_sem, *]⟩
 obtain ⟨⟨s1, s2, s3, s4⟩, s5⟩ := two_later hb2 (b := w1.heap.size) (u := .int .u64 h1) (v := .int .u64 l) ⟨by simp [go_sem, *], by simp [go_sem, *], by simp [go_sem, *], by simp [go_sem, *]⟩
 have x2 := bthen (B := w.heap.size) (w := w) (by go_grown) (by go_size) hb2
 have z2 := x2.size
 clear hb2 p1 p2 p3 p4 p5 q1 q2 q3 q4
 by_cases g : z < 0
 ·have sz := sg_neg g
  go_wp2_with fail
  refine (sub_any limb_0 b1 _).mono ?_
  rintro e w3 ⟨h3, l3, b3, rfl, hb3⟩
  rw [neg_mod kr.1 g] at b3
  obtain ⟨⟨t1, t2, t3, t4⟩, t5⟩ := two_later hb3 (b := w.heap.size + 1) (u := .int .u64 0) (v := .int .u64 0) ⟨by simp [go_sem, *], by simp [go_sem, *], by simp [go_sem, *], by simp [go_sem, *]⟩
  obtain ⟨⟨u1, u2, u3, u4⟩, u5⟩ := two_later hb3 (b := w1.heap.size) (u := .int .u64 h1) (v := .int .u64 l) ⟨by simp [go_sem, *], by simp [go_sem, *], by simp [go_sem, *], by simp [go_sem, *]⟩
  have x3 := bthen (B := w.heap.size) (w := w) (by go_grown) (by go_size) hb3
  have z3 := x3.size
  clear hb3 r1 r2 r3 r4 s1 s2 s3 s4
  go_wp2_with fail
  refine bodyPost_ret (v := .agg #[.int .u64 h3, .int .u64 l3]) (by simp [results, Tryz.results81, go_sem, *]) rfl ⟨_, _, b3, rfl, by go_grown⟩
 ·have sz := sg_pos (z := z) (by omega)
  have e1 : z % 340282366920938463463374607431768211456 = ab z := by rw [ab_pos (by omega)]; omega
  rw [e1] at b1
  go_wp2_with fail
  refine bodyPost_ret (v := .agg #[.int .u64 h1, .int .u64 l]) (by simp [results, Tryz.results81, go_sem, *]) rfl ⟨_, _, b1, rfl, by go_grown⟩
/-! ### A size with a sign put on -/
set_option maxHeartbeats 400000 in
theorem signed_p {h l n : Int} (k : LimbIs h l n) (w : World) :
  Calls Tryz.prog 82 #[.agg #[.int .u64 h, .int .u64 l], .bool false] w fun e w' =>
   ∃ h' l' : Int, WideIs h' l' (fitV n) ∧ e = .returned (.tuple #[.agg #[.int .i64 h', .int .u64 l'], .int .i64 (fitE n)]) ∧ Below w.heap.size w w' := by
 have kr := k.range
 have qe := run_neq_limb
 go_enter Tryz.func82, Tryz.ntmps82
 go_wp2_with fail
 refine (ofBits_any k _).mono ?_
 rintro e w1 ⟨h1, b1, rfl, hb1⟩
 obtain ⟨⟨p1, p2, p3, p4⟩, p5⟩ := two_later hb1 (b := w.heap.size) (u := .int .u64 h) (v := .int .u64 l) ⟨by simp [go_sem, *], by simp [go_sem, *], by simp [go_sem, *], by simp [go_sem, *]⟩
 obtain ⟨⟨q1, q2, q3, q4⟩, q5⟩ := two_later hb1 (b := w.heap.size + 1) (u := .int .i64 0) (v := .int .u64 0) ⟨by simp [go_sem, *], by simp [go_sem, *], by simp [go_sem, *], by simp [go_sem, *]⟩
 have x1 := bthen (B := w.heap.size) (w := w) (by go_grown) (by go_size) hb1
 have z1 := x1.size
 clear hb1
 go_wp2_with fail
 refine (below_any b1 _).mono ?_
 rintro e w2 ⟨rfl, hb2⟩
 obtain ⟨⟨r1, r2, r3, r4⟩, r5⟩ := two_later hb2 (b := w.heap.size) (u := .int .u64 h) (v := .int .u64 l) ⟨by simp [go_sem, *], by simp [go_sem, *], by simp [go_sem, *], by simp [go_sem, *]⟩
 obtain ⟨⟨s1, s2, s3, s4⟩, s5⟩ := two_later hb2 (b := w.heap.size + 1) (u := .int .i64 0) (v := .int .u64 0) ⟨by simp [go_sem, *], by simp [go_sem, *], by simp [go_sem, *], by simp [go_sem, *]⟩
 obtain ⟨⟨t1, t2, t3, t4⟩, t5⟩ := two_later hb2 (b := w1.heap.size) (u := .int .i64 h1) (v := .int .u64 l) ⟨by simp [go_sem, *], by simp [go_sem, *], by simp [go_sem, *], by simp [go_sem, *]⟩
 have x2 := bthen (B := w.heap.size) (w := w) (by go_grown) (by go_size) hb2
 have z2 := x2.size
 clear hb2 p1 p2 p3 p4 q1 q2 q3 q4
 by_cases g : n < 170141183460469231731687303715884105728
 ·obtain ⟨-, fv, fe⟩ := inW_yes (z := n) (by omega) g
  have e1 : sgn n = n := by unfold sgn; rw [if_pos g]
  rw [e1] at b1
  have sz : sg (sgn n) = false := by rw [e1]; exact sg_pos kr.1
  clear e1 g
  go_wp2_with fail
  refine bodyPost_ret (v := .tuple #[.agg #[.int .i64 h1, .int .u64 l], .int .i64 0]) (by simp [results, Tryz.results82, go_sem, *]) rfl ⟨_, _, b1.eq fv.symm, by rw [fe], by go_grown⟩
 ·obtain ⟨-, fv, fe⟩ := inW_no (z := n) (by omega)
  have sz : sg (sgn n) = true := sg_neg (by unfold sgn; rw [if_neg g]; omega)
  have hq := eqL_other k limb_0 (by omega)
  clear g
  go_wp2_with fail
  refine bodyPost_ret (v := .tuple #[.agg #[.int .i64 0, .int .u64 0], .int .i64 2]) (by simp [results, Tryz.results82, go_sem, *]) rfl ⟨_, _, wide_0.eq fv.symm, by rw [fe], by go_grown⟩
set_option maxHeartbeats 400000 in
theorem signed_m {h l n : Int} (k : LimbIs h l n) (w : World) :
  Calls Tryz.prog 82 #[.agg #[.int .u64 h, .int .u64 l], .bool true] w fun e w' =>
   ∃ h' l' : Int, WideIs h' l' (fitV (-n)) ∧ e = .returned (.tuple #[.agg #[.int .i64 h', .int .u64 l'], .int .i64 (fitE (-n))]) ∧ Below w.heap.size w w' := by
 have kr := k.range
 have qe := run_neq_limb
 go_enter Tryz.func82, Tryz.ntmps82
 go_wp2_with fail
 refine (sub_any limb_0 k _).mono ?_
 rintro e w0 ⟨h0, l0, b0, rfl, hb0⟩
 obtain ⟨⟨u1, u2, u3, u4⟩, u5⟩ := two_later hb0 (b := w.heap.size) (u := .int .u64 h) (v := .int .u64 l) ⟨by simp [go_sem, *], by simp [go_sem, *], by simp [go_sem, *], by simp [go_sem, *]⟩
 obtain ⟨⟨v1, v2, v3, v4⟩, v5⟩ := two_later hb0 (b := w.heap.size + 1) (u := .int .i64 0) (v := .int .u64 0) ⟨by simp [go_sem, *], by simp [go_sem, *], by simp [go_sem, *], by simp [go_sem, *]⟩
 have x0 := bthen (B := w.heap.size) (w := w) (by go_grown) (by go_size) hb0
 have z0 := x0.size
 clear hb0
 obtain ⟨N, hN⟩ : ∃ N, Hid (N = (0 - n) % 340282366920938463463374607431768211456) := ⟨_, rfl⟩
 rw [← hN.out] at b0
 go_wp2_with fail
 refine (ofBits_any b0 _).mono ?_
 rintro e w1 ⟨h1, b1, rfl, hb1⟩
 obtain ⟨⟨p1, p2, p3, p4⟩, p5⟩ := two_later hb1 (b := w.heap.size) (u := .int .u64 h0) (v := .int .u64 l0) ⟨by simp [go_sem, *], by simp [go_sem, *], by simp [go_sem, *], by simp [go_sem, *]⟩
 obtain ⟨⟨q1, q2, q3, q4⟩, q5⟩ := two_later hb1 (b := w.heap.size + 1) (u := .int .i64 0) (v := .int .u64 0) ⟨by simp [go_sem, *], by simp [go_sem, *], by simp [go_sem, *], by simp [go_sem, *]⟩
 have x1 := bthen (B := w.heap.size) (w := w) (by go_grown) (by go_size) hb1
 have z1 := x1.size
 clear hb1 u1 u2 u3 u4 v1 v2 v3 v4
 go_wp2_with fail
 refine (below_any b1 _).mono ?_
 rintro e w2 ⟨rfl, hb2⟩
 obtain ⟨⟨r1, r2, r3, r4⟩, r5⟩ := two_later hb2 (b := w.heap.size) (u := .int .u64 h0) (v := .int .u64 l0) ⟨by simp [go_sem, *], by simp [go_sem, *], by simp [go_sem, *], by simp [go_sem, *]⟩
 obtain ⟨⟨s1, s2, s3, s4⟩, s5⟩ := two_later hb2 (b := w.heap.size + 1) (u := .int .i64 0) (v := .int .u64 0) ⟨by simp [go_sem, *], by simp [go_sem, *], by simp [go_sem, *], by simp [go_sem, *]⟩
 obtain ⟨⟨t1, t2, t3, t4⟩, t5⟩ := two_later hb2 (b := w1.heap.size) (u := .int .i64 h1) (v := .int .u64 l0) ⟨by simp [go_sem, *], by simp [go_sem, *], by simp [go_sem, *], by simp [go_sem, *]⟩
 have x2 := bthen (B := w.heap.size) (w := w) (by go_grown) (by go_size) hb2
 have z2 := x2.size
 clear hb2 p1 p2 p3 p4 q1 q2 q3 q4
 by_cases g0 : n = 0
 ·have e0 : N = 0 := by have := hN.out; omega
  obtain ⟨-, fv, fe⟩ := inW_yes (z := -n) (by omega) (by omega)
  have e1 : sgn N = -n := by unfold sgn; rw [e0, if_pos (by decide)]; omega
  rw [e1] at b1
  have sz : sg (sgn N) = false := by rw [e1]; exact sg_pos (by omega)
  have hq := eqL_same b0 (limb_0.eq e0.symm)
  clear e1 g0 e0
  go_wp2_with fail
  refine bodyPost_ret (v := .tuple #[.agg #[.int .i64 h1, .int .u64 l0], .int .i64 0]) (by simp [results, Tryz.results82, go_sem, *]) rfl ⟨_, _, b1.eq fv.symm, by rw [fe], by go_grown⟩
 by_cases g : n ≤ 170141183460469231731687303715884105728
 ·obtain ⟨-, fv, fe⟩ := inW_yes (z := -n) (by omega) (by omega)
  have e1 : sgn N = -n := by have := hN.out; unfold sgn; rw [if_neg (by omega)]; omega
  rw [e1] at b1
  have sz : sg (sgn N) = true := by rw [e1]; exact sg_neg (by omega)
  clear e1 g g0
  go_wp2_with fail
  refine bodyPost_ret (v := .tuple #[.agg #[.int .i64 h1, .int .u64 l0], .int .i64 0]) (by simp [results, Tryz.results82, go_sem, *]) rfl ⟨_, _, b1.eq fv.symm, by rw [fe], by go_grown⟩
 ·obtain ⟨-, fv, fe⟩ := inW_no (z := -n) (by omega)
  have sz : sg (sgn N) = false := sg_pos (by have := hN.out; unfold sgn; rw [if_pos (by omega)]; omega)
  have hq := eqL_other b0 limb_0 (by have := hN.out; omega)
  clear g g0
  go_wp2_with fail
  refine bodyPost_ret (v := .tuple #[.agg #[.int .i64 0, .int .u64 0], .int .i64 2]) (by simp [results, Tryz.results82, go_sem, *]) rfl ⟨_, _, wide_0.eq fv.symm, by rw [fe], by go_grown⟩
end Go.Proofs.YthihioakjpmnbaaGreat
