/-
  The contracts of the reference numbers' Word, Neg, Pow2, Cmp and Same: whole numbers without a bound. No conditions beside the memory's own.
-/
import Derived.Test.YtnjolcmclcengaaRefB
import Derived.Test.YtnjolcmclcengaaLimbA
namespace Go.Proofs.Ytnjolcmclcengaa
open Go.RowKit

theorem hid {p : Prop} (h : p) : Hid p := h
/-- Is it below 0? -/
def sg (z : Int) : Bool := decide (z < 0)
/-- Without its sign. -/
def ab (z : Int) : Int := if z < 0 then -z else z
theorem sg_neg {z : Int} (h : z < 0) : sg z = true := by unfold sg; simpa using h
theorem sg_pos {z : Int} (h : 0 ≤ z) : sg z = false := by unfold sg; simpa using h
theorem ab_neg {z : Int} (h : z < 0) : ab z = -z := by unfold ab; rw [if_pos h]
theorem ab_pos {z : Int} (h : 0 ≤ z) : ab z = z := by unfold ab; rw [if_neg (by omega)]
theorem ab_opp (z : Int) : ab (-z) = ab z := by unfold ab; split <;> split <;> omega
theorem ab_nonneg (z : Int) : 0 ≤ ab z := by unfold ab; split <;> omega
/-- The digits s, with the sign that z has, stand, in w, for the number z; there are at most n of them. -/
def BigIs (n : Nat) (w : World) (s : Value) (z : Int) : Prop := ∃ ds, Digs w s ds ∧ Dig ds ∧ Canon ds ∧ ds.length ≤ n ∧ val ds = ab z
theorem BigIs.later {n : Nat} {w w' : World} {s : Value} {z : Int} (h : BigIs n w s z) (hb : Below w.heap.size w w') : BigIs n w' s z := by
  obtain ⟨ds, h1, h2⟩ := h
  exact ⟨ds, h1.later hb, h2⟩
theorem BigIs.wide {n m : Nat} {w : World} {s : Value} {z : Int} (h : BigIs n w s z) (hm : n ≤ m) : BigIs m w s z := by
  obtain ⟨ds, h1, h2, h3, h4, h5⟩ := h
  exact ⟨ds, h1, h2, h3, by omega, h5⟩
theorem BigIs.opp {n : Nat} {w : World} {s : Value} {z : Int} (h : BigIs n w s z) : BigIs n w s (-z) := by
  obtain ⟨ds, h1, h2, h3, h4, h5⟩ := h
  exact ⟨ds, h1, h2, h3, h4, by rw [ab_opp]; exact h5⟩
theorem BigIs.eq {n : Nat} {w : World} {s : Value} {z z' : Int} (h : BigIs n w s z) (e : z = z') : BigIs n w s z' := e ▸ h
/-- The digits' value, its length and what they are. -/
theorem BigIs.open {n : Nat} {w : World} {a : Option Addr} {l c : Nat} {z : Int} (h : BigIs n w (.slice a l c) z) : ∃ ds, Digs w (.slice a l c) ds ∧ Dig ds ∧ Canon ds ∧ ds.length ≤ n ∧ val ds = ab z ∧ l = ds.length := by
  obtain ⟨ds, h1, h2, h3, h4, h5⟩ := h
  obtain ⟨a', c', e⟩ := h1.form
  obtain ⟨rfl, rfl, rfl⟩ : a = a' ∧ l = ds.length ∧ c = c' := by simpa using e
  exact ⟨ds, h1, h2, h3, h4, h5, rfl⟩
theorem BigIs.len {n : Nat} {w : World} {a : Option Addr} {l c : Nat} {z : Int} (h : BigIs n w (.slice a l c) z) : l ≤ n ∧ (l = 0 ↔ z = 0) := by
  obtain ⟨ds, h1, h2, h3, h4, h5, rfl⟩ := h.open
  refine ⟨h4, ?_⟩
  have hz := canon_zero h2 h3
  rw [h5] at hz
  constructor
  · intro e
    have := hz.2 (List.eq_nil_of_length_eq_zero e)
    unfold ab at this; split at this <;> omega
  · rintro rfl
    rw [hz.1 (by unfold ab; simp)]; rfl
theorem Digs.put {w : World} {v : Value} {zs : List Int} (h : Digs w v zs) {r : Nat} {u0 u1 : Value} (t : Two w r u0 u1) (n0 : NoInt u0) (n1 : NoInt u1) (x y : Value) : Digs ((w.setCell ⟨r, 0, none⟩ x).setCell ⟨r, 1, none⟩ y) v zs :=
  (h.store t.1 n0 x).store (by rw [World.cell?_setCell_other _ _ _ _ (by simp)]; exact t.2.1) n1 y
theorem BigIs.put {n : Nat} {w : World} {s : Value} {z : Int} (h : BigIs n w s z) {r : Nat} {u0 u1 : Value} (t : Two w r u0 u1) (n0 : NoInt u0) (n1 : NoInt u1) (x y : Value) : BigIs n ((w.setCell ⟨r, 0, none⟩ x).setCell ⟨r, 1, none⟩ y) s z := by
  obtain ⟨ds, h1, h2⟩ := h
  exact ⟨ds, h1.put t n0 n1 x y, h2⟩
theorem BigIs.drew {n : Nat} {w : World} {s : Value} {z : Int} (h : BigIs n w s z) : BigIs n w.drew s z := h


theorem low16 (x : Int) (h0 : 0 ≤ x) (h1 : x < 18446744073709551616) : bits .and .u64 x 65535 = x % 65536 := by
  rw [u64_and _ _ h0 h1 (by decide) (by decide)]
  show ((x.toNat &&& 65535 : Nat) : Int) = _
  rw [nat_mask16]; omega

/-- The digits of a word. -/
def wordDs (n : Int) : List Int := [n % 65536, n / 65536 % 65536, n / 4294967296 % 65536, n / 281474976710656]
theorem wordDs_ok (n : Int) (h0 : 0 ≤ n) (h1 : n < 18446744073709551616) : Dig (wordDs n) ∧ val (wordDs n) = n := by
  constructor
  · intro j
    match j with
    | 0 => simp [wordDs]; omega
    | 1 => simp [wordDs]; omega
    | 2 => simp [wordDs]; omega
    | 3 => simp [wordDs]; omega
    | (k + 4) => simp [wordDs]
  · simp only [wordDs, val]; omega


end Go.Proofs.Ytnjolcmclcengaa
