/-
  The contracts of the reference numbers' Word, Neg, Pow2, Cmp and Same: whole numbers without a bound. No conditions beside the memory's own.
-/
import Derived.Test.YtlpenfganhaclaaRefB
import Derived.Test.YtlpenfganhaclaaLimbA
namespace Go.Proofs.Ytlpenfganhaclaa
open Go.RowKit

theorem hid {p : Prop} (h : p) : Hid p := h
/-- Is it below 0? -/
def sg (z : Int) : Bool := decide (z < 0)
/-- Without its sign. -/
def ab (z : Int) : Int := if z < 0 then -z else z
theorem sg_neg {z : Int} (h : z < 0) : sg z = true := by unfold sg; simpa using h
theorem sg_pos {z : Int} (h : 0 ≤ z) : sg z = false := by unfold sg; simpa using h
theorem ab_neg {z : Int} (h : z < 0) : ab z = -z := by unfold ab; rw [if_pos h]
theorem ab_pos {z : Int} (h : 0 ≤ z) : ab z = z := by unfold ab; rw [if_neg (by omega)]
theorem ab_opp (z : Int) : ab (-z) = ab z := by unfold ab; split <;> split <;> omega
theorem ab_nonneg (z : Int) : 0 ≤ ab z := by unfold ab; split <;> omega
/-- The digits s, with the sign that z has, stand, in w, for the number z; there are at most n of them. -/
def BigIs (n : Nat) (w : World) (s : Value) (z : Int) : Prop := ∃ ds, Digs w s ds ∧ Dig ds ∧ Canon ds ∧ ds.length ≤ n ∧ val ds = ab z
theorem BigIs.later {n : Nat} {w w' : World} {s : Value} {z : Int} (h : BigIs n w s z) (hb : Below w.heap.size w w') : BigIs n w' s z := by
  obtain ⟨ds, h1, h2⟩ := h
  exact ⟨ds, h1.later hb, h2⟩
theorem BigIs.wide {n m : Nat} {w : World} {s : Value} {z : Int} (h : BigIs n w s z) (hm : n ≤ m) : BigIs m w s z := by
  obtain ⟨ds, h1, h2, h3, h4, h5⟩ := h
  exact ⟨ds, h1, h2, h3, by omega, h5⟩
theorem BigIs.opp {n : Nat} {w : World} {s : Value} {z : Int} (h : BigIs n w s z) : BigIs n w s (-z) := by
  obtain ⟨ds, h1, h2, h3, h4, h5⟩ := h
  exact ⟨ds, h1, h2, h3, h4, by rw [ab_opp]; exact h5⟩
theorem BigIs.eq {n : Nat} {w : World} {s : Value} {z z' : Int} (h : BigIs n w s z) (e : z = z') : BigIs n w s z' := e ▸ h
/-- The digits' value, its length and what they are. -/
theorem BigIs.open {n : Nat} {w : World} {a : Option Addr} {l c : Nat} {z : Int} (h : BigIs n w (.slice a l c) z) : ∃ ds, Digs w (.slice a l c) ds ∧ Dig ds ∧ Canon ds ∧ ds.length ≤ n ∧ val ds = ab z ∧ l = ds.length := by
  obtain ⟨ds, h1, h2, h3, h4, h5⟩ := h
  obtain ⟨a', c', e⟩ := h1.form
  obtain ⟨rfl, rfl, rfl⟩ : a = a' ∧ l = ds.length ∧ c = c' := by simpa using e
  exact ⟨ds, h1, h2, h3, h4, h5, rfl⟩
theorem BigIs.len {n : Nat} {w : World} {a : Option Addr} {l c : Nat} {z : Int} (h : BigIs n w (.slice a l c) z) : l ≤ n ∧ (l = 0 ↔ z = 0) := by
  obtain ⟨ds, h1, h2, h3, h4, h5, rfl⟩ := h.open
  refine ⟨h4, ?_⟩
  have hz := canon_zero h2 h3
  rw [h5] at hz
  constructor
  · intro e
    have := hz.2 (List.eq_nil_of_length_eq_zero e)
    unfold ab at this; split at this <;> omega
  · rintro rfl
    rw [hz.1 (by unfold ab; simp)]; rfl
theorem Digs.put {w : World} {v : Value} {zs : List Int} (h : Digs w v zs) {r : Nat} {u0 u1 : Value} (t : Two w r u0 u1) (n0 : NoInt u0) (n1 : NoInt u1) (x y : Value) : Digs ((w.setCell ⟨r, 0, none⟩ x).setCell ⟨r, 1, none⟩ y) v zs :=
  (h.store t.1 n0 x).store (by rw [World.cell?_setCell_other _ _ _ _ (by simp)]; exact t.2.1) n1 y
theorem BigIs.put {n : Nat} {w : World} {s : Value} {z : Int} (h : BigIs n w s z) {r : Nat} {u0 u1 : Value} (t : Two w r u0 u1) (n0 : NoInt u0) (n1 : NoInt u1) (x y : Value) : BigIs n ((w.setCell ⟨r, 0, none⟩ x).setCell ⟨r, 1, none⟩ y) s z := by
  obtain ⟨ds, h1, h2⟩ := h
  exact ⟨ds, h1.put t n0 n1 x y, h2⟩
theorem BigIs.drew {n : Nat} {w : World} {s : Value} {z : Int} (h : BigIs n w s z) : BigIs n w.drew s z := h

/-- make([]int, m): so many noughts in a new block. -/
theorem made (m : Nat) (hm : m ≤ 1000000000) (W : World) : ∃ W', (Instr.makeSlice 30 (.int .i64 (m : Int)) (.int .i64 (m : Int))).run Try.prog W = .ok (.slice (some ⟨W.heap.size, 0, none⟩) m m) W' ∧
    (∀ j, j < m → W'.cell? ⟨W.heap.size, j, none⟩ = some (.int .i64 0) ∧ W'.frozen? ⟨W.heap.size, j, none⟩ = false) ∧ Below W.heap.size W W' ∧ W'.heap.size = W.heap.size + 1 := by
  obtain ⟨i0, hi0, hz0, hz1, hz2⟩ : ∃ i, Try.prog.info? 3 = some i ∧ i.zero = some (.int .i64 0) ∧ i.size = 1 ∧ i.bytes = 8 := by
    have h := Try.infoInt
    cases hi : Try.prog.info? 3 with
    | none => rw [hi] at h; simp at h
    | some i => rw [hi] at h; simp at h; exact ⟨i, rfl, h.1, h.2.1, h.2.2⟩
  have hr := run_make (P := Try.prog) W 30 3 i0 (.int .i64 0) Try.underlying30 hi0 hz0 .i64 .i64 (m : Int) (m : Int) (by omega) (by omega) (by rw [hz2]; omega) (by omega)
  refine ⟨_, hr, fun j hj => ?_, (Below.refl _ _).alloc (Nat.le_refl _) _, by simp⟩
  rw [hz1]
  refine ⟨?_, by simp⟩
  rw [World.cell?_alloc_new]
  have e : (madeCells (Value.cells (.int .i64 0)) ((m : Int).toNat * 1)).toList = List.replicate m (.int .i64 0) := by
    have := toList_madeCells_one (.int .i64 0) ((m : Int).toNat * 1)
    simpa [Value.cells] using this
  rw [← Array.getElem?_toList, e, List.getElem?_replicate, if_pos hj]

theorem low16 (x : Int) (h0 : 0 ≤ x) (h1 : x < 18446744073709551616) : bits .and .u64 x 65535 = x % 65536 := by
  rw [u64_and _ _ h0 h1 (by decide) (by decide)]
  show ((x.toNat &&& 65535 : Nat) : Int) = _
  rw [nat_mask16]; omega

/-- The digits of a word. -/
def wordDs (n : Int) : List Int := [n % 65536, n / 65536 % 65536, n / 4294967296 % 65536, n / 281474976710656]
theorem wordDs_ok (n : Int) (h0 : 0 ≤ n) (h1 : n < 18446744073709551616) : Dig (wordDs n) ∧ val (wordDs n) = n := by
  constructor
  · intro j
    match j with
    | 0 => simp [wordDs]; omega
    | 1 => simp [wordDs]; omega
    | 2 => simp [wordDs]; omega
    | 3 => simp [wordDs]; omega
    | (k + 4) => simp [wordDs]
  · simp only [wordDs, val]; omega

set_option maxRecDepth 100000 in
set_option maxHeartbeats 1000000 in
theorem word_any (n : Int) (h0 : 0 ≤ n) (h1 : n < 18446744073709551616) (w : World) :
    Calls Try.prog 35 #[.int .u64 n] w fun e w' => ∃ a l c, e = .returned (.agg #[.bool false, .slice a l c]) ∧ BigIs 4 w' (.slice a l c) n ∧ Below w.heap.size w w' := by
  have b0 := low16 n h0 h1
  have b1 := low16 (n / 65536) (by omega) (by omega)
  have b2 := low16 (n / 4294967296) (by omega) (by omega)
  obtain ⟨dw, vw⟩ := wordDs_ok n h0 h1
  go_enter Try.func35, Try.ntmps35
  go_wp2_with fail
  refine (trim_b (zs := wordDs n) ⟨some ⟨w.heap.size + 1, 0, none⟩, w.heap.size + 1, 0, 4, rfl, Nat.le_refl _, by unfold maxLen; decide, .inr rfl, ?_⟩ (by simp [wordDs])).mono ?_
  · intro j hj
    have hj' : j < 4 := hj
    rcases (show j = 0 ∨ j = 1 ∨ j = 2 ∨ j = 3 by omega) with rfl | rfl | rfl | rfl <;> simp [go_sem, wordDs, dg]
  rintro e w1 ⟨k, v', hk, hzr, hcn, rfl, hdg, hb1⟩
  obtain ⟨a', c', rfl⟩ := hdg.form
  obtain ⟨l, hl⟩ : ∃ l, Hid (l = (List.take k (wordDs n)).length) := ⟨_, rfl⟩
  rw [← hl.out] at hdg ⊢
  have tw := two_later hb1 (b := w.heap.size) (u := .bool false) (v := .slice none 0 0) ⟨by simp [go_sem], by simp [go_sem], by simp [go_sem], by simp [go_sem]⟩
  have TW := hid tw
  obtain ⟨⟨p1, p2, p3, p4⟩, p5⟩ := tw
  have x1 := bthen (B := w.heap.size) (w := w) (by go_grown) (by go_size) hb1
  have hz1 := x1.size
  clear hb1
  go_wp2_with fail
  refine bodyPost_ret (v := .agg #[.bool false, .slice a' l c']) (by simp [results, Try.results35, go_sem, *]) rfl ⟨_, _, _, rfl, ?_, ?_⟩
  · refine BigIs.put ⟨_, hdg, dig_take dw k, canon_take hk hcn, ?_, ?_⟩ TW.out.1 (noInt_bool _) (noInt_slice _ _ _) _ _
    · rw [List.length_take]; simp [wordDs]; omega
    · rw [val_trim hk hzr, vw, ab_pos h0]
  · go_grown

set_option maxRecDepth 100000 in
set_option maxHeartbeats 1000000 in
theorem neg_any {n : Nat} {a : Option Addr} {l c : Nat} {z : Int} {w : World} (h : BigIs n w (.slice a l c) z) :
    Calls Try.prog 45 #[.agg #[.bool (sg z), .slice a l c]] w fun e w' => e = .returned (.agg #[.bool (sg (-z)), .slice a l c]) ∧ BigIs n w' (.slice a l c) (-z) ∧ Below w.heap.size w w' := by
  obtain ⟨-, hl⟩ := h.len
  have HB := hid h.opp
  clear h
  by_cases g1 : z < 0
  · have s1 := sg_neg g1
    have s2 := sg_pos (z := -z) (by omega)
    clear hl
    go_enter Try.func45, Try.ntmps45
    go_wp2
    go_returns
    exact ⟨by first | rfl | rw [s2], HB.out.later (by go_grown), by go_grown⟩
  · have s1 := sg_pos (z := z) (by omega)
    by_cases g2 : z = 0
    · obtain rfl := hl.2 g2
      subst g2
      have HB0 := hid (HB.out.eq (show -(0 : Int) = 0 by omega))
      clear hl HB g1
      go_enter Try.func45, Try.ntmps45
      go_wp2
      go_returns
      exact ⟨by first | rfl | (rw [s1]; rfl), HB0.out.later (by go_grown), by go_grown⟩
    · have s2 := sg_neg (z := -z) (by omega)
      have g3 : (0 : Int) < (l : Int) := by have : ¬ l = 0 := fun e => g2 (hl.1 e); omega
      have g4 : 0 < l := by omega
      clear hl
      go_enter Try.func45, Try.ntmps45
      go_wp2
      go_returns
      exact ⟨by first | rfl | (rw [s2]; rfl), HB.out.later (by go_grown), by go_grown⟩
end Go.Proofs.Ytlpenfganhaclaa
